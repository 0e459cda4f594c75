/- The walk of the law BoxWraps: it answers true and writes nothing that was there. -/
import Derived.Test.YtgdmhfdlijeogaaBoxR
import Derived.Test.YtgdmhfdlijeogaaBoxQ
import Derived.Laws.OwnMore


namespace Go.Proofs.Ytgdmhfdlijeogaa.boxes
set_option linter.unusedVariables false
set_option linter.unusedSimpArgs false
open Go.RowKit Go.Proofs.Ytgdmhfdlijeogaa.base Go.Proofs.Ytgdmhfdlijeogaa.tm Go.Proofs.Ytgdmhfdlijeogaa.lies Go.Proofs.Ytgdmhfdlijeogaa.rights Go.Proofs.Ytgdmhfdlijeogaa.encs Go.Proofs.Ytgdmhfdlijeogaa.copies Go.Proofs.Ytgdmhfdlijeogaa.makes Go.Proofs.Ytgdmhfdlijeogaa.reads Go.Proofs.Ytgdmhfdlijeogaa.likes

theorem Keys.below {w w' : World} {K : Option Addr} {kc : Nat} {ks : List Int} (h : Keys w K kc ks) (hb : Below w.heap.size w w') : Keys w' K kc ks :=
  ⟨(h.1.below hb).more hb.size, h.2.1, h.2.2.1, h.2.2.2⟩
theorem Keys.alloc {w : World} {K : Option Addr} {kc : Nat} {ks : List Int} (h : Keys w K kc ks) (o : Obj) : Keys (w.alloc o) K kc ks :=
  h.below ((Below.refl _ _).alloc (Nat.le_refl _) o)

theorem keys_of_row {w : World} {a : Option Addr} {len cap : Nat} {zs : List Int}
    (h : (a = none ∧ len = 0 ∧ cap = 0 ∧ zs = []) ∨
      ∃ x, a = some x ∧ len ≤ cap ∧ cap ≤ maxLen ∧ zs.length = cap ∧ (∀ i, i < zs.length → w.cell? (x.add i) = some (.int .u64 (zs.getD i 0))) ∧ ∀ n ∈ zs, (Lit.int .u64 n).wf = true) :
    ∃ ks : List Int, len = ks.length ∧ Keys w a cap ks := by
  have r := of_row h
  refine ⟨zs.take len, r.2.1.symm, r.1, by rw [r.2.1]; exact r.2.2.1, by rw [r.2.1]; exact r.2.2.2.2.1, fun k hk => ?_⟩
  have hw := r.2.2.2.2.2 k hk
  have e1 : IntKind.u64.min = 0 := rfl
  have e2 : IntKind.u64.max = 18446744073709551615 := rfl
  simp [Lit.wf, IntKind.has] at hw
  omega

set_option maxRecDepth 100000 in
set_option maxHeartbeats 800000 in
theorem law_wraps (t : T) (v : Value) (K : Option Addr) (kc : Nat) (ks : List Int) (w : World) (hL : Lies w w.heap.size t v) (hK : Keys w K kc ks) :
    Calls Try.prog 4 #[T.val t v, .slice K ks.length kc] w fun e w' => e = .returned (.bool true) ∧ Below w.heap.size w w' := by
  obtain ⟨A, c, xs, rfl, hk, hn, hs, hlc, hc, hr, hl⟩ := hL.open_
  have hL1 := hL.later (Nat.le_refl _) (cs t A c)
  have hK1 := hK.alloc (cs t A c)
  have h1 := fun wx (hx : Lies wx wx.heap.size t (.slice A t.l.length c)) (hy : Keys wx K kc ks) => wrap_any t _ K kc ks wx hx hy
  have h2 := fun wx (hx : Lies wx wx.heap.size t (.slice A t.l.length c)) (hy : Keys wx K kc ks) => refWrap_any t _ K kc ks wx hx hy
  have h3 := fun wx (hx : Lies wx wx.heap.size t (.slice A t.l.length c)) (hy : Keys wx K kc ks) => unwrap_any t _ K kc ks wx hx hy
  have h4 := fun wx (hx : Lies wx wx.heap.size t (.slice A t.l.length c)) (hy : Keys wx K kc ks) => refUnwrap_any t _ K kc ks wx hx hy
  generalize wrapT t ks = r at h1 h2
  generalize unwrapT t ks = q at h3 h4
  have k0 := Blk.new w 25 #[.int .i64 t.k, .int .u64 t.n, .string t.s, .slice A t.l.length c]
  go_enter Try.func4, Try.ntmps4
  go_wp2_with fail
  refine (h1 _ hL1 hK1).mono ?_
  rintro e w1 ⟨hb1, A1, c1, rfl, hH1, hF1⟩
  have K1 := (hK1.below hb1).alloc (cs r.1 A1 c1)
  have hz1 := hb1.size
  simp only [World.size_alloc] at hb1 hz1
  have g1 : w.heap.size < w1.heap.size := by omega
  have hB1 := one_step (Below.refl _ _) _ hb1
  have a1 := hH1.lies hF1.1 hF1.2.1 hF1.2.2 (Nat.le_refl _)
  have L1 := (hL1.below (hb1.mono (by simp))).now (by simp; omega)
  have k1 := k0.below hb1 (by omega)
  have y0 := k1.cell 0
  have y1 := k1.cell 1
  have y2 := k1.cell 2
  have y3 := k1.cell 3
  simp at y0 y1 y2 y3
  go_wp2_with fail
  refine (h2 _ (L1.later (Nat.le_refl _) (cs r.1 A1 c1)) K1).mono ?_
  rintro e w2 ⟨hb2, A2, c2, rfl, a2⟩
  have K2 := (K1.below hb2).alloc (cs r.1 A2 c2)
  have hz2 := hb2.size
  simp only [World.size_alloc] at hb2 hz2
  have g2 : w.heap.size < w2.heap.size := by omega
  have g3 : w1.heap.size < w2.heap.size := by omega
  have hB2 := one_step hB1 _ hb2
  have ka := (Blk.new w1 25 #[.int .i64 r.1.k, .int .u64 r.1.n, .string r.1.s, .slice A1 r.1.l.length c1]).below hb2 (by omega)
  have k2 := (k1.alloc (cs r.1 A1 c1)).below hb2 (by omega)
  have L2 := ((L1.later (Nat.le_refl _) (cs r.1 A1 c1)).below (hb2.mono (by simp))).now (by simp; omega)
  have b1 := ((a1.later (Nat.le_refl _) (cs r.1 A1 c1)).below (hb2.mono (by simp))).now (by simp; omega)
  obtain ⟨_, _, _, _, hF2⟩ := a2.open_
  clear y0 y1 y2 y3
  have y0 := k2.cell 0
  have y1 := k2.cell 1
  have y2 := k2.cell 2
  have y3 := k2.cell 3
  simp at y0 y1 y2 y3
  go_wp2_with fail
  refine (h3 _ (L2.later (Nat.le_refl _) (cs r.1 A2 c2)) K2).mono ?_
  rintro e w3 ⟨hb3, A3, c3, rfl, hH3, hF3⟩
  have K3 := (K2.below hb3).alloc (cs q.1 A3 c3)
  have hz3 := hb3.size
  simp only [World.size_alloc] at hb3 hz3
  have g4 : w.heap.size < w3.heap.size := by omega
  have g5 : w1.heap.size < w3.heap.size := by omega
  have g6 : w2.heap.size < w3.heap.size := by omega
  have hB3 := one_step hB2 _ hb3
  have a3 := hH3.lies hF3.1 hF3.2.1 hF3.2.2 (Nat.le_refl _)
  have kb := (Blk.new w2 25 #[.int .i64 r.1.k, .int .u64 r.1.n, .string r.1.s, .slice A2 r.1.l.length c2]).below hb3 (by omega)
  have ka3 := (ka.alloc (cs r.1 A2 c2)).below hb3 (by omega)
  have k3 := (k2.alloc (cs r.1 A2 c2)).below hb3 (by omega)
  have L3 := ((L2.later (Nat.le_refl _) (cs r.1 A2 c2)).below (hb3.mono (by simp))).now (by simp; omega)
  have b13 := ((b1.later (Nat.le_refl _) (cs r.1 A2 c2)).below (hb3.mono (by simp))).now (by simp; omega)
  have b23 := ((a2.later (Nat.le_refl _) (cs r.1 A2 c2)).below (hb3.mono (by simp))).now (by simp; omega)
  clear y0 y1 y2 y3
  have y0 := k3.cell 0
  have y1 := k3.cell 1
  have y2 := k3.cell 2
  have y3 := k3.cell 3
  simp at y0 y1 y2 y3
  go_wp2_with fail
  refine (h4 _ (L3.later (Nat.le_refl _) (cs q.1 A3 c3)) K3).mono ?_
  rintro e w4 ⟨hb4, A4, c4, rfl, a4'⟩
  have hz4 := hb4.size
  simp only [World.size_alloc] at hb4 hz4
  have g7 : w.heap.size < w4.heap.size := by omega
  have g8 : w1.heap.size < w4.heap.size := by omega
  have g9 : w2.heap.size < w4.heap.size := by omega
  have g10 : w3.heap.size < w4.heap.size := by omega
  have hB4 := one_step hB3 _ hb4
  have a4 := a4'.later (Nat.le_refl _) (cs q.1 A4 c4)
  have kc := (Blk.new w3 25 #[.int .i64 q.1.k, .int .u64 q.1.n, .string q.1.s, .slice A3 q.1.l.length c3]).below hb4 (by omega)
  have ka4 := (ka3.alloc (cs q.1 A3 c3)).below hb4 (by omega)
  have kb4 := (kb.alloc (cs q.1 A3 c3)).below hb4 (by omega)
  have b14 := (((b13.later (Nat.le_refl _) (cs q.1 A3 c3)).below (hb4.mono (by simp))).now (by simp; omega)).later (Nat.le_refl _) (cs q.1 A4 c4)
  have b24 := (((b23.later (Nat.le_refl _) (cs q.1 A3 c3)).below (hb4.mono (by simp))).now (by simp; omega)).later (Nat.le_refl _) (cs q.1 A4 c4)
  have b34 := (((a3.later (Nat.le_refl _) (cs q.1 A3 c3)).below (hb4.mono (by simp))).now (by simp; omega)).later (Nat.le_refl _) (cs q.1 A4 c4)
  clear y0 y1 y2 y3 k0 k1 k2 k3 L1 L2 L3 a1 a2 a3 b1 b13 b23 hL1 hL hr hl
  have u0 := ka4.cell 0
  have u1 := ka4.cell 1
  have u2 := ka4.cell 2
  have u3 := ka4.cell 3
  have y0 := kb4.cell 0
  have y1 := kb4.cell 1
  have y2 := kb4.cell 2
  have y3 := kb4.cell 3
  simp at u0 u1 u2 u3 y0 y1 y2 y3
  have h5 := like_any r.1.size r.1 _ _ _ (Nat.le_refl _) b14 b24
  go_wp2_with fail
  refine h5.mono ?_
  rintro e w5 ⟨rfl, hb5⟩
  have hz5 := hb5.size
  simp only [World.size_alloc] at hb5 hz5
  have kc5 := (kc.alloc (cs q.1 A4 c4)).below hb5 (by omega)
  have kd5 := (Blk.new w4 25 #[.int .i64 q.1.k, .int .u64 q.1.n, .string q.1.s, .slice A4 q.1.l.length c4]).below hb5 (by omega)
  have v0 := kc5.cell 0
  have v1 := kc5.cell 1
  have v2 := kc5.cell 2
  have v3 := kc5.cell 3
  have x0 := kd5.cell 0
  have x1 := kd5.cell 1
  have x2 := kd5.cell 2
  have x3 := kd5.cell 3
  simp at v0 v1 v2 v3 x0 x1 x2 x3
  have b35 := (b34.below (hb5.mono (by simp))).now (by simp; omega)
  have b45 := (a4.below (hb5.mono (by simp))).now (by simp; omega)
  have h6 := like_any q.1.size q.1 _ _ _ (Nat.le_refl _) b35 b45
  have hB5 := one_step hB4 _ hb5
  go_wp2_with fail
  refine h6.mono ?_
  rintro e w6 ⟨rfl, hb6⟩
  go_wp2_with fail
  go_ret
  exact ⟨rfl, hB5.trans (hb6.mono hB5.size)⟩
end Go.Proofs.Ytgdmhfdlijeogaa.boxes

/- What is wrapped unwraps with the same keys alone; rows of keys that the call makes. -/

namespace Go.Proofs.Ytgdmhfdlijeogaa.boxes
set_option linter.unusedVariables false
set_option linter.unusedSimpArgs false
open Go.RowKit Go.Proofs.Ytgdmhfdlijeogaa.base Go.Proofs.Ytgdmhfdlijeogaa.tm Go.Proofs.Ytgdmhfdlijeogaa.lies Go.Proofs.Ytgdmhfdlijeogaa.rights Go.Proofs.Ytgdmhfdlijeogaa.encs Go.Proofs.Ytgdmhfdlijeogaa.copies Go.Proofs.Ytgdmhfdlijeogaa.makes Go.Proofs.Ytgdmhfdlijeogaa.reads

theorem contW_append (a b : List Int) : ∀ r : T × Int, contW r (a ++ b) = contW (contW r a) b := by
  induction a with
  | nil => intro r; rfl
  | cons k a ih =>
    intro r
    by_cases h : r.2 = 0
    · rw [List.cons_append, contW_ok h, contW_ok h, ih]
    · rw [contW_bad h, contW_bad h, contW_bad h]
/-- what is wrapped, unwrapped with as many keys -/
theorem unwrap_wrap (n : Nat) : ∀ (ks us : List Int) (t b : T), ks.length = n → us.length = n → contW (t, 0) ks = (b, 0) → contU (b, 0) us.reverse = if us = ks then (t, 0) else (zT, 31) := by
  induction n with
  | zero =>
    intro ks us t b hk hu h
    obtain rfl := List.eq_nil_of_length_eq_zero hk
    obtain rfl := List.eq_nil_of_length_eq_zero hu
    rw [if_pos rfl]
    exact h.symm
  | succ n ih =>
    intro ks us t b hk hu h
    obtain ⟨ks', k, rfl⟩ : ∃ ks' k, ks = ks' ++ [k] := by
      rcases List.eq_nil_or_concat ks with rfl | ⟨l, x, rfl⟩
      · simp at hk
      · exact ⟨l, x, by simp⟩
    obtain ⟨us', u, rfl⟩ : ∃ us' u, us = us' ++ [u] := by
      rcases List.eq_nil_or_concat us with rfl | ⟨l, x, rfl⟩
      · simp at hu
      · exact ⟨l, x, by simp⟩
    have hk' : ks'.length = n := by simpa using hk
    have hu' : us'.length = n := by simpa using hu
    rw [contW_append] at h
    have h0 : (contW (t, 0) ks').2 = 0 := by
      by_cases h0 : (contW (t, 0) ks').2 = 0
      · exact h0
      · rw [contW_bad h0] at h; rw [h] at h0; exact absurd rfl h0
    rw [contW_ok h0] at h
    have h : sealT k (contW (t, 0) ks').1 = (b, 0) := h
    obtain ⟨e1, e2, e3⟩ := seal_box (show (sealT k (contW (t, 0) ks').1).2 = 0 by rw [h])
    rw [e1] at h
    injection h with h _
    have hb := open_box (o := u) e3
    rw [h] at hb
    rw [List.reverse_append]
    show contU (b, 0) (u :: us'.reverse) = _
    rw [contU_ok rfl]
    show contU (openT u b) us'.reverse = _
    rw [hb]
    by_cases hku : k = u
    · subst hku
      rw [if_pos rfl, ih ks' us' t (contW (t, 0) ks').1 hk' hu' (Prod.ext rfl h0)]
      by_cases hus : us' = ks'
      · rw [if_pos hus, if_pos (by rw [hus])]
      · rw [if_neg hus, if_neg (fun e => hus (List.append_cancel_right e))]
    · rw [if_neg hku, contU_bad (by decide), if_neg]
      intro e
      have := congrArg List.getLast? e
      simp at this
      exact hku this.symm
theorem wrap_right (ks : List Int) : ∀ (t b : T), t.right = 0 → contW (t, 0) ks = (b, 0) → b.right = 0 := by
  induction ks with
  | nil => intro t b h e; injection e with e _; rw [← e]; exact h
  | cons k ks ih =>
    intro t b h e
    rw [contW_ok rfl] at e
    by_cases h2 : (sealT k t).2 = 0
    · obtain ⟨e1, e2, e3⟩ := seal_box h2
      have e : contW (sealT k t) ks = (b, 0) := e
      rw [e1] at e
      exact ih _ _ e3 e
    · have e : contW (sealT k t) ks = (b, 0) := e
      rw [contW_bad h2] at e
      rw [e] at h2
      exact absurd rfl h2
/-- what is wrapped, unwrapped -/
theorem wrapped {t : T} {ks : List Int} (h : (wrapT t ks).2 = 0) (us : List Int) (hu : us.length = ks.length) : unwrapT (wrapT t ks).1 us = if us = ks then (t, 0) else (zT, 31) := by
  have e : wrapT t ks = ((wrapT t ks).1, 0) := by rw [← h]
  generalize (wrapT t ks).1 = b at e
  unfold wrapT at e
  have h0 : (begunT t ks.length).2 = 0 := by
    by_cases h0 : (begunT t ks.length).2 = 0
    · exact h0
    · rw [contW_bad h0] at e; rw [e] at h0; exact absurd rfl h0
  have hb : ¬ 8 < ks.length ∧ t.right = 0 := by
    unfold begunT at h0
    by_cases h8 : 8 < ks.length
    · rw [if_pos h8] at h0; exact absurd h0 (by decide)
    · rw [if_neg h8] at h0
      by_cases hR : t.right = 0
      · exact ⟨h8, hR⟩
      · rw [if_pos hR] at h0; exact absurd h0 hR
  have e2 : begunT t ks.length = (t, 0) := by
    unfold begunT
    rw [if_neg hb.1, if_neg (by simpa using hb.2)]
  rw [e2] at e
  have e3 : begunT b us.length = (b, 0) := by
    unfold begunT
    rw [if_neg (by omega), if_neg (by simpa using wrap_right ks t b hb.2 e)]
  unfold unwrapT
  rw [e3]
  exact unwrap_wrap ks.length ks us t b rfl hu e
theorem wrapped_len {t : T} {ks : List Int} (h : (wrapT t ks).2 = 0) : ks.length ≤ 8 := by
  rcases Nat.lt_or_ge 8 ks.length with h8 | h8
  · have hb : begunT t ks.length = (zT, 2) := by unfold begunT; rw [if_pos h8]
    have hc : contW (zT, 2) ks = (zT, 2) := contW_bad (by decide) ks
    unfold wrapT at h
    rw [hb, hc] at h
    exact absurd h (by decide)
  · exact h8
theorem swapped {ks : List Int} {i j : Nat} (hi : i < ks.length) (hj : j < ks.length) : ((ks.set i ks[j]).set j ks[i] = ks) ↔ ks[i] = ks[j] := by
  constructor
  · intro e
    by_cases hij : i = j
    · subst hij; rfl
    · have h1 : ((ks.set i ks[j]).set j ks[i])[i]? = ks[i]? := by rw [e]
      rw [List.getElem?_set_ne (by omega), List.getElem?_set_self hi, List.getElem?_eq_getElem hi] at h1
      injection h1 with h1
      exact h1.symm
  · intro e
    apply List.ext_getElem?
    intro k
    by_cases hk : k = j
    · subst hk
      rw [List.getElem?_set_self (by simpa using hj), List.getElem?_eq_getElem hj, e]
    · rw [List.getElem?_set_ne (by omega)]
      by_cases hki : k = i
      · subst hki
        rw [List.getElem?_set_self hi, List.getElem?_eq_getElem hi, e]
      · rw [List.getElem?_set_ne (by omega)]
theorem spoilt {ks : List Int} {i : Nat} (hi : i < ks.length) {x : Int} (hx : x ≠ ks[i]) : ks.set i x ≠ ks := by
  intro e
  have h1 : (ks.set i x)[i]? = ks[i]? := by rw [e]
  rw [List.getElem?_set_self hi, List.getElem?_eq_getElem hi] at h1
  injection h1 with h1
  exact hx h1

theorem info64 : (Try.prog.info? 22).map (fun i => (i.zero, i.size, i.bytes)) = some (some (.int .u64 0), 1, 8) := by kernel_rfl
theorem own_empty (w : World) (B : Nat) (hB : B ≤ w.heap.size) (e : TypeId) : (w.alloc (.cells #[] e)).ownsRow B e 1 (.slice (some ⟨w.heap.size, 0, none⟩) 0 0) 0 [] :=
  World.ownsRow_made w #[] 0 hB (by unfold maxLen; omega) (by simp)
theorem one_cells (zs : List Int) : ∀ u ∈ zs.map (Value.int .u64), u.oneCell' = true := by
  intro u hu
  obtain ⟨z, _, rfl⟩ := List.mem_map.1 hu
  rfl
/-- an owned row of keys -/
theorem keys_own {w : World} {base g c n : Nat} {us : List Int} (h : w.ownsRow base 22 1 (.slice (some ⟨g, 0, none⟩) n c) n (us.map (Value.int .u64))) (hu : ∀ k ∈ us, 0 ≤ k ∧ k < 18446744073709551616) : us.length = n ∧ Keys w (some ⟨g, 0, none⟩) c us := by
  have hlen : us.length = n := by simpa using h.1
  obtain ⟨A, c', e, hr, hn⟩ := own_slice h
  injection e with e1 _ e2
  subst e1 e2
  have hc : n ≤ c := by
    rcases h.2 with ⟨h', _⟩ | ⟨g', cap', cur, h', _, _, hnc, _⟩
    · simp at h'
    · injection h' with _ _ h3
      omega
  exact ⟨hlen, hr, by omega, by omega, hu⟩
theorem mem_set2 {ks : List Int} {P : Int → Prop} (h : ∀ k ∈ ks, P k) {i : Nat} {x : Int} (hx : P x) : ∀ k ∈ ks.set i x, P k := fun k hk => by
  rcases List.mem_or_eq_of_mem_set hk with h1 | h1
  · exact h k h1
  · rw [h1]; exact hx
theorem map_set (ks : List Int) (i : Nat) (x : Int) : (ks.map (Value.int .u64)).set i (.int .u64 x) = (ks.set i x).map (Value.int .u64) := by rw [List.map_set]
end Go.Proofs.Ytgdmhfdlijeogaa.boxes

/- The walk of the law BoxOrders: it answers true and writes nothing that was there. -/

namespace Go.Proofs.Ytgdmhfdlijeogaa.boxes
set_option linter.unusedVariables false
set_option linter.unusedSimpArgs false
open Go.RowKit Go.Proofs.Ytgdmhfdlijeogaa.base Go.Proofs.Ytgdmhfdlijeogaa.tm Go.Proofs.Ytgdmhfdlijeogaa.lies Go.Proofs.Ytgdmhfdlijeogaa.rights Go.Proofs.Ytgdmhfdlijeogaa.encs Go.Proofs.Ytgdmhfdlijeogaa.copies Go.Proofs.Ytgdmhfdlijeogaa.makes Go.Proofs.Ytgdmhfdlijeogaa.reads Go.Proofs.Ytgdmhfdlijeogaa.likes

set_option maxRecDepth 100000 in
set_option maxHeartbeats 800000 in
theorem orders_bad (t : T) (v : Value) (K : Option Addr) (kc : Nat) (ks : List Int) (i j : Int) (w : World) (hL : Lies w w.heap.size t v) (hK : Keys w K kc ks) (hE : (wrapT t ks).2 ≠ 0) :
    Calls Try.prog 7 #[T.val t v, .slice K ks.length kc, .int .i64 i, .int .i64 j] w fun e w' => e = .returned (.bool true) ∧ Below w.heap.size w w' := by
  obtain ⟨A, c, xs, rfl, hk, hn, hs, hlc, hc, hr, hl⟩ := hL.open_
  have hL1 := hL.later (Nat.le_refl _) (cs t A c)
  have hK1 := hK.alloc (cs t A c)
  have h1 := fun wx (hx : Lies wx wx.heap.size t (.slice A t.l.length c)) (hy : Keys wx K kc ks) => refWrap_any t _ K kc ks wx hx hy
  have h2 := fun wx (hx : Lies wx wx.heap.size t (.slice A t.l.length c)) (hy : Keys wx K kc ks) => wrap_any t _ K kc ks wx hx hy
  generalize wrapT t ks = r at h1 h2 hE
  have d1 : (r.2 != 0) = true := by simpa using hE
  clear hE
  have k0 := Blk.new w 25 #[.int .i64 t.k, .int .u64 t.n, .string t.s, .slice A t.l.length c]
  go_enter Try.func7, Try.ntmps7
  go_wp2_with fail
  refine (h1 _ hL1 hK1).mono ?_
  rintro e w1 ⟨hb1, A1, c1, rfl, a1⟩
  have K1 := (hK1.below hb1).alloc (cs r.1 A1 c1)
  have L1 := ((hL1.below hb1).now hb1.size).later (Nat.le_refl _) (cs r.1 A1 c1)
  have hz1 := hb1.size
  simp only [World.size_alloc] at hb1 hz1
  have g1 : w.heap.size < w1.heap.size := by omega
  have hB1 := one_step (Below.refl _ _) _ hb1
  have k1 := k0.below hb1 (by omega)
  have y0 := k1.cell 0
  have y1 := k1.cell 1
  have y2 := k1.cell 2
  have y3 := k1.cell 3
  simp at y0 y1 y2 y3
  go_wp2_with fail
  refine (h2 _ L1 K1).mono ?_
  rintro e w2 ⟨hb2, A2, c2, rfl, hH2, hF2⟩
  simp only [World.size_alloc] at hb2
  have hB2 := one_step hB1 _ hb2
  go_wp2_with fail
  go_ret
  exact ⟨rfl, hB2.alloc hB2.size _⟩

set_option maxRecDepth 100000 in
set_option maxHeartbeats 1600000 in
theorem orders_out (t b : T) (A : Option Addr) (c : Nat) (K : Option Addr) (kc : Nat) (ks : List Int) (i j : Int) (w : World) (hL : Lies w w.heap.size t (.slice A t.l.length c)) (hK : Keys w K kc ks) (hlen : ks.length ≤ 8)
    (h1 : ∀ wx, Lies wx wx.heap.size t (.slice A t.l.length c) → Keys wx K kc ks → Calls Try.prog 14 #[T.val t (.slice A t.l.length c), .slice K ks.length kc] wx (AnsL wx (b, 0)))
    (h2 : ∀ wx, Lies wx wx.heap.size t (.slice A t.l.length c) → Keys wx K kc ks → Calls Try.prog 13 #[T.val t (.slice A t.l.length c), .slice K ks.length kc] wx (Ans2 wx b 0))
    (h3 : ∀ wx v, Lies wx wx.heap.size b v → Keys wx K kc ks → Calls Try.prog 15 #[T.val b v, .slice K ks.length kc] wx (Ans2 wx t 0))
    (hij : i < 0 ∨ (¬ i < 0 ∧ (ks.length : Int) ≤ i) ∨ (¬ i < 0 ∧ ¬ (ks.length : Int) ≤ i ∧ j < 0) ∨ (¬ i < 0 ∧ ¬ (ks.length : Int) ≤ i ∧ ¬ j < 0 ∧ (ks.length : Int) ≤ j)) :
    Calls Try.prog 7 #[T.val t (.slice A t.l.length c), .slice K ks.length kc, .int .i64 i, .int .i64 j] w fun e w' => e = .returned (.bool true) ∧ Below w.heap.size w w' := by
  have HIJ := lay hij
  clear hij
  have hkc := hK.2.1
  have hL1 := hL.later (Nat.le_refl _) (cs t A c)
  have hK1 := hK.alloc (cs t A c)
  have k0 := Blk.new w 25 #[.int .i64 t.k, .int .u64 t.n, .string t.s, .slice A t.l.length c]
  go_enter Try.func7, Try.ntmps7
  go_wp2_with fail
  refine (h1 _ hL1 hK1).mono ?_
  rintro e w1 ⟨hb1, A1, c1, rfl, a1⟩
  have K1 := (hK1.below hb1).alloc (cs b A1 c1)
  have L1 := ((hL1.below hb1).now hb1.size).later (Nat.le_refl _) (cs b A1 c1)
  have hz1 := hb1.size
  simp only [World.size_alloc] at hb1 hz1
  have g1 : w.heap.size < w1.heap.size := by omega
  have hB1 := one_step (Below.refl _ _) _ hb1
  have k1 := k0.below hb1 (by omega)
  have y0 := k1.cell 0
  have y1 := k1.cell 1
  have y2 := k1.cell 2
  have y3 := k1.cell 3
  simp at y0 y1 y2 y3
  go_wp2_with fail
  refine (h2 _ L1 K1).mono ?_
  rintro e w2 ⟨hb2, A2, c2, rfl, hH2, hF2⟩
  have K2 := (K1.below hb2).alloc (cs b A2 c2)
  have L2 := ((L1.below hb2).now hb2.size).later (Nat.le_refl _) (cs b A2 c2)
  have M2 := (hH2.lies hF2.1 hF2.2.1 hF2.2.2 (Nat.le_refl _)).later (Nat.le_refl _) (cs b A2 c2)
  have hz2 := hb2.size
  simp only [World.size_alloc] at hb2 hz2
  have hB2 := one_step hB1 _ hb2
  have k2 := (k1.alloc (cs b A1 c1)).below hb2 (by omega)
  clear y0 y1 y2 y3
  go_wp2_with fail
  refine (h3 _ _ M2 K2).mono ?_
  rintro e w3 ⟨hb3, A3, c3, rfl, hH3, hF3⟩
  have L3 := ((L2.below hb3).now hb3.size).later (Nat.le_refl _) (cs t A3 c3)
  have M3 := (hH3.lies hF3.1 hF3.2.1 hF3.2.2 (Nat.le_refl _)).later (Nat.le_refl _) (cs t A3 c3)
  have hz3 := hb3.size
  simp only [World.size_alloc] at hb3 hz3
  have g3 : w.heap.size < w3.heap.size := by omega
  have hB3 := one_step hB2 _ hb3
  have k3 := (k2.alloc (cs b A2 c2)).below hb3 (by omega)
  have y0 := k3.cell 0
  have y1 := k3.cell 1
  have y2 := k3.cell 2
  have y3 := k3.cell 3
  simp at y0 y1 y2 y3
  have h4 := like_any t.size t _ _ _ (Nat.le_refl _) M3 L3
  go_wp2_with fail
  refine h4.mono ?_
  rintro e w4 ⟨rfl, hb4⟩
  simp only [World.size_alloc] at hb4
  have hB4 := one_step hB3 _ hb4
  rcases HIJ.out with q1 | ⟨q1, q2⟩ | ⟨q1, q2, q3⟩ | ⟨q1, q2, q3, q4⟩
  all_goals
    go_wp2_with fail
    go_ret
    exact ⟨rfl, hB4⟩
end Go.Proofs.Ytgdmhfdlijeogaa.boxes

/- The walk of the law BoxOrders, where both places are among the keys. -/

namespace Go.Proofs.Ytgdmhfdlijeogaa.boxes
set_option linter.unusedVariables false
set_option linter.unusedSimpArgs false
open Go.RowKit Go.Proofs.Ytgdmhfdlijeogaa.base Go.Proofs.Ytgdmhfdlijeogaa.tm Go.Proofs.Ytgdmhfdlijeogaa.lies Go.Proofs.Ytgdmhfdlijeogaa.rights Go.Proofs.Ytgdmhfdlijeogaa.encs Go.Proofs.Ytgdmhfdlijeogaa.copies Go.Proofs.Ytgdmhfdlijeogaa.makes Go.Proofs.Ytgdmhfdlijeogaa.reads Go.Proofs.Ytgdmhfdlijeogaa.likes

set_option maxRecDepth 100000 in
set_option maxHeartbeats 3200000 in
theorem orders_in (t b q : T) (n : Int) (A : Option Addr) (c : Nat) (K : Option Addr) (kc : Nat) (ks : List Int) (i j : Nat) (w : World) (hL : Lies w w.heap.size t (.slice A t.l.length c)) (hK : Keys w K kc ks) (hlen : ks.length ≤ 8)
    (hi : i < ks.length) (hj : j < ks.length)
    (h1 : ∀ wx, Lies wx wx.heap.size t (.slice A t.l.length c) → Keys wx K kc ks → Calls Try.prog 14 #[T.val t (.slice A t.l.length c), .slice K ks.length kc] wx (AnsL wx (b, 0)))
    (h2 : ∀ wx, Lies wx wx.heap.size t (.slice A t.l.length c) → Keys wx K kc ks → Calls Try.prog 13 #[T.val t (.slice A t.l.length c), .slice K ks.length kc] wx (Ans2 wx b 0))
    (h3 : ∀ wx v, Lies wx wx.heap.size b v → Keys wx K kc ks → Calls Try.prog 15 #[T.val b v, .slice K ks.length kc] wx (Ans2 wx t 0))
    (h4 : ∀ wx v K' c', Lies wx wx.heap.size b v → Keys wx K' c' ((ks.set i ks[j]).set j ks[i]) → Calls Try.prog 15 #[T.val b v, .slice K' ks.length c'] wx (Ans2 wx q n))
    (h5 : ∀ wx v K' c' x, x ≠ ks[i] → Lies wx wx.heap.size b v → Keys wx K' c' (ks.set i x) → Calls Try.prog 15 #[T.val b v, .slice K' ks.length c'] wx (Ans2 wx zT 31))
    (hq : ((ks[i] == ks[j]) = true ∧ n = 0) ∨ ((ks[i] == ks[j]) = false ∧ n = 31)) :
    Calls Try.prog 7 #[T.val t (.slice A t.l.length c), .slice K ks.length kc, .int .i64 i, .int .i64 j] w fun e w' => e = .returned (.bool true) ∧ Below w.heap.size w w' := by
  obtain ⟨i0, hi0, hz0, hzz1, hzz2⟩ := info_parts info64
  have HQ := lay hq
  clear hq
  have hkc := hK.2.1
  obtain ⟨bk, ok, rfl, hbk, _, hki64⟩ := hK.at_ (Below.refl _ _) hi
  obtain ⟨_, _, e, _, _, hkj64⟩ := hK.at_ (Below.refl _ _) hj
  clear e
  have hci := fun (w' : World) (hb : Below w.heap.size w w') => (show w'.cell? ⟨bk, ok + i, none⟩ = some (.int .u64 ks[i]) by
    obtain ⟨b', o', e, _, h, _⟩ := hK.at_ hb hi
    injection e with e
    injection e with e1 e2 _
    rw [e1, e2]; exact h)
  have hcj := fun (w' : World) (hb : Below w.heap.size w w') => (show w'.cell? ⟨bk, ok + j, none⟩ = some (.int .u64 ks[j]) by
    obtain ⟨b', o', e, _, h, _⟩ := hK.at_ hb hj
    injection e with e
    injection e with e1 e2 _
    rw [e1, e2]; exact h)
  have hall := hK.2.2.2
  have i1 : ¬ (i : Int) < 0 := by omega
  have i2 : ¬ (ks.length : Int) ≤ (i : Int) := by omega
  have j1 : ¬ (j : Int) < 0 := by omega
  have j2 : ¬ (ks.length : Int) ≤ (j : Int) := by omega
  have hL1 := hL.later (Nat.le_refl _) (cs t A c)
  have hK1 := hK.alloc (cs t A c)
  have k0 := Blk.new w 25 #[.int .i64 t.k, .int .u64 t.n, .string t.s, .slice A t.l.length c]
  go_enter Try.func7, Try.ntmps7
  go_wp2_with fail
  refine (h1 _ hL1 hK1).mono ?_
  rintro e w1 ⟨hb1, A1, c1, rfl, a1⟩
  have K1 := (hK1.below hb1).alloc (cs b A1 c1)
  have L1 := ((hL1.below hb1).now hb1.size).later (Nat.le_refl _) (cs b A1 c1)
  have hz1 := hb1.size
  simp only [World.size_alloc] at hb1 hz1
  have g1 : w.heap.size < w1.heap.size := by omega
  have hB1 := one_step (Below.refl _ _) _ hb1
  have k1 := k0.below hb1 (by omega)
  have y0 := k1.cell 0
  have y1 := k1.cell 1
  have y2 := k1.cell 2
  have y3 := k1.cell 3
  simp at y0 y1 y2 y3
  go_wp2_with fail
  refine (h2 _ L1 K1).mono ?_
  rintro e w2 ⟨hb2, A2, c2, rfl, hH2, hF2⟩
  have K2 := (K1.below hb2).alloc (cs b A2 c2)
  have L2 := ((L1.below hb2).now hb2.size).later (Nat.le_refl _) (cs b A2 c2)
  have M2 := (hH2.lies hF2.1 hF2.2.1 hF2.2.2 (Nat.le_refl _)).later (Nat.le_refl _) (cs b A2 c2)
  have hz2 := hb2.size
  simp only [World.size_alloc] at hb2 hz2
  have hB2 := one_step hB1 _ hb2
  have k2 := (k1.alloc (cs b A1 c1)).below hb2 (by omega)
  clear y0 y1 y2 y3
  go_wp2_with fail
  refine (h3 _ _ M2 K2).mono ?_
  rintro e w3 ⟨hb3, A3, c3, rfl, hH3, hF3⟩
  have L3 := ((L2.below hb3).now hb3.size).later (Nat.le_refl _) (cs t A3 c3)
  have X3 := (hH3.lies hF3.1 hF3.2.1 hF3.2.2 (Nat.le_refl _)).later (Nat.le_refl _) (cs t A3 c3)
  have M3 := ((M2.below hb3).now hb3.size).later (Nat.le_refl _) (cs t A3 c3)
  have hz3 := hb3.size
  simp only [World.size_alloc] at hb3 hz3
  have g3 : w.heap.size < w3.heap.size := by omega
  have hB3 := one_step hB2 _ hb3
  have k3 := (k2.alloc (cs b A2 c2)).below hb3 (by omega)
  have p3 := (Blk.new w2 25 #[.int .i64 b.k, .int .u64 b.n, .string b.s, .slice A2 b.l.length c2]).below hb3 (by omega)
  have y0 := k3.cell 0
  have y1 := k3.cell 1
  have y2 := k3.cell 2
  have y3 := k3.cell 3
  simp at y0 y1 y2 y3
  have hcall := like_any t.size t _ _ _ (Nat.le_refl _) X3 L3
  go_wp2_with fail
  refine hcall.mono ?_
  rintro e w4 ⟨rfl, hb4⟩
  have M4 := (M3.below hb4).now hb4.size
  have hz4 := hb4.size
  simp only [World.size_alloc] at hb4 hz4
  have hB4 := one_step hB3 _ hb4
  have p4 := (p3.alloc (cs t A3 c3)).below hb4 (by omega)
  have hrd : Rd (w4.alloc (.cells #[] 22)) w.heap.size (some ⟨bk, ok, none⟩) (ks.map (Value.int .u64)) := hK.1.below (hB4.alloc hB4.size _)
  clear y0 y1 y2 y3 K1 L1 hb1 k1 K2 L2 M2 hb2 k2 L3 X3 M3 hb3 k3 hcall k0 hL1 hK1
  go_wp2_with (at_builtin; refine wpList_append_rd rfl (.tmp 75) (.tmp 76) _ rfl w4.heap.size 22 i0 _ 8 Try.underlying31 hi0 hz0 hzz1 hzz2 rfl _ 0 [] rfl (own_empty w4 _ (Nat.le_refl _) _) w.heap.size _ ks.length kc (ks.map (Value.int .u64)) rfl (by simp) (by simp) hrd (one_cells ks) ?_ ?_ ?_ ?_)
  · unfold maxLen; omega
  · omega
  · simp
  intro v5 w5 hown5 hg5 hv5
  obtain ⟨g5, c5, cur5, rfl, hlow5, hblk5, hn5, hsz5, htk5⟩ := own_form hown5 hv5
  have hb5 : Below w4.heap.size w4 w5 := ((Below.refl _ w4).alloc (Nat.le_refl _) _).grown hg5 (by simp) (by simp [Value.ownBlock])
  have hB5 := hB4.trans (hb5.mono hB4.size)
  have M5 := (M4.below hb5).now hb5.size
  have p5 := p4.below hb5 (by omega)
  have hz5 := hb5.size
  have hlt5 := hblk5.lt
  have hki := hci w5 hB5
  have hkj := hcj w5 hB5
  have s1 := hown5.cellAt i (by omega)
  have s2 := hown5.cellAt j (by omega)
  rw [List.getElem?_map, List.getElem?_eq_getElem hi] at s1
  rw [List.getElem?_map, List.getElem?_eq_getElem hj] at s2
  simp only [Option.map_some] at s1 s2
  have r1 := hown5.frozenAt i
  have r2 := hown5.frozenAt j
  clear hg5 hv5 hn5 hsz5 htk5
  generalize hkie : ks[i] = ki at *
  generalize hkje : ks[j] = kj at *
  go_wp2_with fail
  have own6 := (((hown5.stored i (.int .u64 kj)).1).stored j (.int .u64 ki)).1
  rw [map_set, map_set] at own6
  have K6 := (keys_own own6 (mem_set2 (mem_set2 hall hkj64) hki64)).2
  have hB56 : Below w4.heap.size w5 ((w5.setCell ⟨g5, i, none⟩ (.int .u64 kj)).setCell ⟨g5, j, none⟩ (.int .u64 ki)) := ((Below.refl _ _).setCell (p := ⟨g5, i, none⟩) hlow5 _).setCell (p := ⟨g5, j, none⟩) hlow5 _
  obtain ⟨v', hy'⟩ := cell?_setCell_some (w := w5) (p := ⟨g5, i, none⟩) (x := .int .u64 kj) (q := ⟨g5, j, none⟩) (v := .int .u64 kj) s2
  go_region
  obtain ⟨w6, ew6⟩ : ∃ w6, w6 = ((w5.setCell ⟨g5, i, none⟩ (.int .u64 kj)).setCell ⟨g5, j, none⟩ (.int .u64 ki)).drew := ⟨_, rfl⟩
  rw [← ew6]
  have K6' : Keys w6 (some ⟨g5, 0, none⟩) c5 ((ks.set i kj).set j ki) := by rw [ew6]; exact K6
  have hb6 : Below w4.heap.size w4 w6 := by rw [ew6]; exact (hb5.trans hB56).drew
  clear ew6 hy' hB56 K6 own6 r1 r2 s1 s2 hki hkj hlt5 p5 M5 hB5 hown5 hblk5 hb5 hlow5
  have hB6 := hB4.trans (hb6.mono hB4.size)
  have M6 := (M4.below hb6).now hb6.size
  have p6 := p4.below hb6 (by omega)
  have hz6 := hb6.size
  have y0 := p6.cell 0
  have y1 := p6.cell 1
  have y2 := p6.cell 2
  have y3 := p6.cell 3
  simp at y0 y1 y2 y3
  have g6 : w2.heap.size < w6.heap.size := by omega
  go_wp2_with fail
  refine (h4 _ _ _ _ M6 K6').mono ?_
  rintro e w7 ⟨hb7, A7, c7, rfl, hH7, hF7⟩
  have M7 := ((M6.below hb7).now hb7.size).later (Nat.le_refl _) (cs q A7 c7)
  have hz7 := hb7.size
  have hB7 := hB6.trans (hb7.mono hB6.size)
  have hB7' := hB7.alloc hB7.size (cs q A7 c7)
  have p7 := p6.below hb7 (by omega)
  have hki7 := hci w7 hB7
  have hkj7 := hcj w7 hB7
  have gk7 : bk < w7.heap.size := by have := hB7.size; omega
  have g7 : w2.heap.size < w7.heap.size := by omega
  clear y0 y1 y2 y3 K6' M6 M4 hb6 p6 p4
  rcases HQ.out with ⟨d1, rfl⟩ | ⟨d1, rfl⟩
  all_goals
    go_wp2_with fail
    go_quiet (fail)
    generalize hw8 : World.drewN (World.alloc w7 _) _ = w8
    have hb8 : Below (w7.alloc (cs q A7 c7)).heap.size (w7.alloc (cs q A7 c7)) w8 := by rw [← hw8]; exact ⟨rfl, rfl, rfl, Nat.le_refl _, fun _ _ => rfl⟩
    clear hw8
    have M8 := (M7.below hb8).now hb8.size
    have p8 := (p7.alloc (cs q A7 c7)).below hb8 (by simp; omega)
    have hB8 := hB7'.trans (hb8.mono hB7'.size)
    have hrd8 : Rd (w8.alloc (.cells #[] 22)) w.heap.size (some ⟨bk, ok, none⟩) (ks.map (Value.int .u64)) := hK.1.below (hB8.alloc hB8.size _)
    have hz8 := hb8.size
    simp only [World.size_alloc] at hz8
    clear hb8 M7 p7 hB7' hki7 hkj7 hB7
    go_wp2_with (at_builtin; refine wpList_append_rd rfl (.tmp 118) (.tmp 119) _ rfl w8.heap.size 22 i0 _ 8 Try.underlying31 hi0 hz0 hzz1 hzz2 rfl _ 0 [] rfl (own_empty w8 _ (Nat.le_refl _) _) w.heap.size _ ks.length kc (ks.map (Value.int .u64)) rfl (by simp) (by simp) hrd8 (one_cells ks) ?a1 ?a2 ?a3 ?a4)
    case a1 => unfold maxLen; omega
    case a2 => omega
    case a3 => simp
    case a4 =>
      intro v9 w9 hown9 hg9 hv9
      obtain ⟨g9, c9, cur9, rfl, hlow9, hblk9, hn9, hsz9, htk9⟩ := own_form hown9 hv9
      have hb9 : Below w8.heap.size w8 w9 := ((Below.refl _ w8).alloc (Nat.le_refl _) _).grown hg9 (by simp) (by simp [Value.ownBlock])
      have hB9 := hB8.trans (hb9.mono hB8.size)
      have hz9 := hb9.size
      have hlt9 := hblk9.lt
      have hki9 := hci w9 hB9
      have s1 := hown9.cellAt i (by omega)
      rw [List.getElem?_map, List.getElem?_eq_getElem hi, hkie] at s1
      simp only [Option.map_some] at s1
      have r1 := hown9.frozenAt i
      clear hg9 hv9 hn9 hsz9 htk9 hrd8
      have p9 := p8.below hb9 (by omega)
      have y0 := p9.cell 0
      have y1 := p9.cell 1
      have y2 := p9.cell 2
      have y3 := p9.cell 3
      simp at y0 y1 y2 y3
      have g9' : w2.heap.size < w9.heap.size := by omega
      go_wp2_with fail
      have ew : IntKind.u64.wrap (ki + 1) = (ki + 1) % 18446744073709551616 := by rw [IntKind.wrap_u64]
      have hx1 : IntKind.u64.wrap (ki + 1) ≠ ki := by rw [ew]; omega
      have hx2 : 0 ≤ IntKind.u64.wrap (ki + 1) ∧ IntKind.u64.wrap (ki + 1) < 18446744073709551616 := by rw [ew]; omega
      have ownA := (hown9.stored i (.int .u64 (IntKind.u64.wrap (ki + 1)))).1
      rw [map_set] at ownA
      have KA := (keys_own ownA (mem_set2 hall hx2)).2
      have hbA : Below w8.heap.size w8 (w9.setCell ⟨g9, i, none⟩ (.int .u64 (IntKind.u64.wrap (ki + 1)))) := hb9.setCell (p := ⟨g9, i, none⟩) hlow9 _
      refine (h5 _ _ _ _ _ hx1 ((M8.below hbA).now hbA.size) KA).mono ?_
      rintro e wB ⟨hbB, AB, cB, rfl, hHB, hFB⟩
      have hBA := hB8.trans (hbA.mono hB8.size)
      have hBB := hBA.trans (hbB.mono hBA.size)
      go_wp2_with fail
      go_ret
      exact ⟨rfl, hBB.alloc hBB.size _⟩

theorem law_orders (t : T) (v : Value) (K : Option Addr) (kc : Nat) (ks : List Int) (i j : Int) (w : World) (hL : Lies w w.heap.size t v) (hK : Keys w K kc ks) :
    Calls Try.prog 7 #[T.val t v, .slice K ks.length kc, .int .i64 i, .int .i64 j] w fun e w' => e = .returned (.bool true) ∧ Below w.heap.size w w' := by
  by_cases hE : (wrapT t ks).2 = 0
  · obtain ⟨A, c, xs, rfl, _⟩ := hL.open_
    have hlen := wrapped_len hE
    have hun := wrapped hE
    have e : wrapT t ks = ((wrapT t ks).1, 0) := Prod.ext rfl hE
    have h1 := fun wx (hx : Lies wx wx.heap.size t (.slice A t.l.length c)) (hy : Keys wx K kc ks) => refWrap_any t _ K kc ks wx hx hy
    have h2 := fun wx (hx : Lies wx wx.heap.size t (.slice A t.l.length c)) (hy : Keys wx K kc ks) => wrap_any t _ K kc ks wx hx hy
    have h3 := fun wx v K' c' us (hu : us.length = ks.length) (hx : Lies wx wx.heap.size (wrapT t ks).1 v) (hy : Keys wx K' c' us) => unwrap_any (wrapT t ks).1 v K' c' us wx hx hy
    generalize (wrapT t ks).1 = b at hun e h3
    rw [e] at h1 h2
    have h3a : ∀ wx v, Lies wx wx.heap.size b v → Keys wx K kc ks → Calls Try.prog 15 #[T.val b v, .slice K ks.length kc] wx (Ans2 wx t 0) := fun wx v hx hy => by
      have := h3 wx v K kc ks rfl hx hy
      rw [hun ks rfl, if_pos rfl] at this
      exact this
    by_cases hin : (0 ≤ i ∧ i < (ks.length : Int)) ∧ (0 ≤ j ∧ j < (ks.length : Int))
    · obtain ⟨⟨a1, a2⟩, a3, a4⟩ := hin
      obtain ⟨ni, rfl⟩ := Int.eq_ofNat_of_zero_le a1
      obtain ⟨nj, rfl⟩ := Int.eq_ofNat_of_zero_le a3
      have hi : ni < ks.length := by omega
      have hj : nj < ks.length := by omega
      have h5 : ∀ wx v K' c' x, x ≠ ks[ni] → Lies wx wx.heap.size b v → Keys wx K' c' (ks.set ni x) → Calls Try.prog 15 #[T.val b v, .slice K' ks.length c'] wx (Ans2 wx zT 31) := fun wx v K' c' x hx hl hy => by
        have := h3 wx v K' c' (ks.set ni x) (by simp) hl hy
        rw [hun _ (by simp), if_neg (spoilt hi hx), List.length_set] at this
        exact this
      by_cases heq : ks[ni] = ks[nj]
      · refine orders_in t b t 0 A c K kc ks ni nj w hL hK hlen hi hj h1 h2 h3a (fun wx v K' c' hl hy => ?_) h5 (.inl ⟨by simpa using heq, rfl⟩)
        have := h3 wx v K' c' _ (by simp) hl hy
        rw [hun _ (by simp), if_pos ((swapped hi hj).2 heq), List.length_set, List.length_set] at this
        exact this
      · refine orders_in t b zT 31 A c K kc ks ni nj w hL hK hlen hi hj h1 h2 h3a (fun wx v K' c' hl hy => ?_) h5 (.inr ⟨by simpa using heq, rfl⟩)
        have := h3 wx v K' c' _ (by simp) hl hy
        rw [hun _ (by simp), if_neg (fun e => heq ((swapped hi hj).1 e)), List.length_set, List.length_set] at this
        exact this
    · exact orders_out t b A c K kc ks i j w hL hK hlen h1 h2 h3a (by omega)
  · exact orders_bad t v K kc ks i j w hL hK hE
end Go.Proofs.Ytgdmhfdlijeogaa.boxes
