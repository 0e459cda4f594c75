/- The walk of BookGone. -/
import Derived.Test.YtnhfpbllgjhcdaaBkV


namespace Go.Proofs.Ytnhfpbllgjhcdaa.books
set_option linter.unusedVariables false
set_option linter.unusedSimpArgs false
open Go.RowKit Go.Shelf Go.Proofs.Ytnhfpbllgjhcdaa.base Go.Proofs.Ytnhfpbllgjhcdaa.quotas Go.Proofs.Ytnhfpbllgjhcdaa.vers Go.Proofs.Ytnhfpbllgjhcdaa.nodes Go.Proofs.Ytnhfpbllgjhcdaa.trees Go.Proofs.Ytnhfpbllgjhcdaa.texts

def InHead (ts : List (List UInt8)) (s : List UInt8) (w : World) (i : Value) (wr : World) : Prop :=
  ∃ j : Nat, j ≤ ts.length ∧ i = .int .i64 j ∧ wr = w ∧ Hid (∀ k (h : k < ts.length), k < j → ts[k] ≠ s)
set_option maxRecDepth 100000 in
theorem in_ok (v : Value) (lo : Nat) (ts : List (List UInt8)) (s : ByteArray) (w : World) (hT : Txt w lo v ts) (bb : Bool) (hbb : decide (bn s ∈ ts) = bb) :
    Calls Try.prog 35 #[v, .string s] w fun e w' => e = .returned (.bool bb) ∧ w = w' := by
  obtain ⟨A, c, rfl, hlen, hT⟩ := hT
  have hbs : bn s = s.toList := (Lib.toList_data s).symm
  rw [hbs] at hbb
  have HBB := vers.lay hbb
  clear hbb hbs
  go_enter Try.func35, Try.ntmps35
  go_wp2_with fail
  go_loopw [9] (fun i wr => InHead ts s.toList w i wr) (fun i _ => ts.length - (intOf i).toNat)
  case atStart => exact ⟨0, Nat.zero_le _, rfl, rfl, vers.lay (fun k _ h => absurd h (Nat.not_lt_zero _))⟩
  case round =>
    obtain ⟨j, hj, rfl, rfl, HJ⟩ := hrel
    by_cases hlt : j < ts.length
    · obtain ⟨g, rfl, hlo, hg, hcell⟩ := hT j hlt
      by_cases he : ts[j] = s.toList
      · have d1 : (ts[j] == s.toList) = true := by simpa using he
        have HM := vers.lay (show bb = true by rw [← HBB.out, ← he]; simp)
        clear he
        go_wp2_with fail
        go_ret
        exact ⟨by rw [HM.out]; rfl, rfl⟩
      · have d1 : (ts[j] == s.toList) = false := by simpa using he
        have HE := vers.lay he
        clear he
        go_wp2_with fail
        exact ⟨⟨j + 1, hlt, by go_num, rfl, vers.lay (fun k hk hkj => by
          by_cases hkk : k = j
          · subst hkk; exact HE.out
          · exact HJ.out k hk (by omega))⟩, by simp [intOf]; omega⟩
    · have HM := vers.lay (show bb = false by
        rw [← HBB.out, decide_eq_false_iff_not]
        intro hm
        obtain ⟨k, hk, e⟩ := List.getElem_of_mem hm
        exact HJ.out k hk (by omega) e)
      go_wp2_with fail
      go_ret
      exact ⟨by rw [HM.out]; rfl, rfl⟩
theorem goneP_mem {b : Bk} {x : List UInt8} : x ∈ goneP b ↔ x ∈ b.P ∧ ¬ x ∈ fin (allP b.L) := by unfold goneP; rw [List.mem_filter]; simp
theorem goneP_up {b : Bk} (h : b.P.Pairwise (· < ·)) : (goneP b).Pairwise (· < ·) := h.sublist List.filter_sublist
/-- the values that calls put -/
def pv (ops : List O) : List ByteArray := (ops.filter fun o => decide (o.k ≠ 3)).map (·.v)
theorem pv_yes {ops : List O} {k : Nat} (hk : k < ops.length) (h : ops[k].k ≠ 3) : pv (ops.take (k + 1)) = pv (ops.take k) ++ [ops[k].v] := by
  unfold pv
  rw [List.take_succ_eq_append_getElem hk, List.filter_append, List.map_append]
  simp [h]
theorem pv_no {ops : List O} {k : Nat} (hk : k < ops.length) (h : ops[k].k = 3) : pv (ops.take (k + 1)) = pv (ops.take k) := by
  unfold pv
  rw [List.take_succ_eq_append_getElem hk, List.filter_append, List.map_append]
  simp [h]
theorem pv_len (ops : List O) : (pv ops).length ≤ ops.length := by unfold pv; rw [List.length_map]; exact List.length_filter_le _ _
theorem wereP_mem : ∀ (ops : List O) (P : List (List UInt8)), P.Pairwise (· < ·) → ∀ x, x ∈ wereP P ops ↔ x ∈ P ∨ x ∈ brs (pv ops)
  | [], P, _, x => by simp [wereP, pv, brs]
  | o :: r, P, h, x => by
    have e : wereP P (o :: r) = wereP (wereP P [o]) r := rfl
    have e2 : brs (pv (o :: r)) = (if o.k ≠ 3 then [bn o.v] else []) ++ brs (pv r) := by
      unfold pv brs
      by_cases h3 : o.k = 3 <;> simp [h3, bn]
    rw [e, wereP_mem r _ (wereP_up [o] P h), wereP_one, e2]
    by_cases h3 : o.k ≠ 3
    · rw [if_pos h3, if_pos h3, (insD_props _ P h).2]
      simp only [List.mem_append, List.mem_singleton]
      constructor
      · rintro ((h | h) | h)
        · exact .inr (.inl h)
        · exact .inl h
        · exact .inr (.inr h)
      · rintro (h | h | h)
        · exact .inl (.inr h)
        · exact .inl (.inl h)
        · exact .inr h
    · rw [if_neg h3, if_neg h3]
      simp
/-- where a loop stands: the book, and a row of its own of what was put, apart from the book -/
def GnAt (W : World) (q : Qt) (bp mp : Nat) (b : Bk) (ps : List ByteArray) (u : Value) (wr : World) : Prop := Below W.heap.size W wr ∧ ∃ Z : Nat → Prop, W.heap.size ≤ bp ∧ W.heap.size ≤ mp ∧ BAt wr q bp mp Z b ∧ (∀ g, Z g → W.heap.size ≤ g) ∧ wr.ownsRow 0 9 1 u ps.length (sts ps) ∧ ∀ g, u.ownBlock = some g → W.heap.size ≤ g ∧ g ≠ bp ∧ g ≠ mp ∧ ¬ Z g
section
variable {W : World} {q : Qt} {bp mp : Nat} {b : Bk} {ps : List ByteArray} {u : Value} {wr w' : World} {n : Nat}
theorem GnAt.md (h : GnAt W q bp mp b ps u wr) : MdHead W q bp mp b wr := by
  obtain ⟨h1, Z, h2, h3, h4, h5, _⟩ := h
  exact ⟨h1, Z, h2, h3, h4, h5⟩
theorem GnAt.of (h : MdHead W q bp mp b wr) : GnAt W q bp mp b [] (.slice none 0 0) wr := by
  obtain ⟨h1, Z, h2, h3, h4, h5⟩ := h
  exact ⟨h1, Z, h2, h3, h4, h5, ⟨rfl, .inl ⟨rfl, rfl⟩⟩, fun g h => by cases h⟩
theorem GnAt.row (h : GnAt W q bp mp b ps u wr) : wr.ownsRow 0 9 1 u ps.length (sts ps) := by
  obtain ⟨h1, Z, h2, h3, h4, h5, h6, h7⟩ := h
  exact h6
theorem GnAt.below (h : GnAt W q bp mp b ps u wr) (hb : Below wr.heap.size wr w') : GnAt W q bp mp b ps u w' := by
  obtain ⟨h1, Z, h2, h3, h4, h5, h6, h7⟩ := h
  exact ⟨h1.trans (hb.mono h1.size), Z, h2, h3, h4.below hb, h5, row_below h6 hb, h7⟩
theorem GnAt.txt (h : GnAt W q bp mp b ps u wr) (hl : ps.length ≤ 140737488355328) : Txt wr 0 u (brs ps) := by
  refine own_txt ?_ (by rw [brs_len]; exact hl)
  rw [brs_len, ← sts_brs]
  exact h.row
theorem GnAt.play (h : GnAt W q bp mp b ps u wr) (hk : q.ok) (hI : BInv q n b) (hn : n ≤ 1000) {ops : List O} {A : Option Addr} {c : Nat} (hO : Os wr wr.heap.size ops A c) (hA : ops ≠ [] → ∀ g off, A = some ⟨g, off, none⟩ → g < W.heap.size) :
    Calls Try.prog 26 #[.pointer (some ⟨bp, 0, none⟩), .slice A ops.length c] wr fun e w' => e = .returned (.tuple #[.int .i64 (playP q b ops).2.1, .int .i64 (playP q b ops).2.2]) ∧ GnAt W q bp mp (playP q b ops).1 ps u w' := by
  obtain ⟨h1, Z, h2, h3, h4, h5, h6, h7⟩ := h
  have hL := hI.inv.le hk
  have hP := hI.plen
  refine (play_any q bp mp Z b ops A c wr h4 hO (fun hn g off e => by have := hA hn g off e; omega) (by have := hk.2.2.2.2.2.1.2; omega) (by have := hk.2.2.2.2.2.1.2; omega)).mono ?_
  rintro e w' ⟨he, hK, Z', hB, hZ⟩
  refine ⟨he, h1.trans (hK.below (fun g hg => by rcases hg with rfl | rfl <;> assumption) h1.size), Z', h2, h3, hB, fun g hg => (hZ g hg).elim (h5 g) (fun h => Nat.le_trans h1.size h), ownsRow_agree h6 (fun g hg => hK.block g (h6.lt g hg).2 (fun h => h.elim (h7 g hg).2.1 (h7 g hg).2.2.1)), fun g hg => ⟨(h7 g hg).1, (h7 g hg).2.1, (h7 g hg).2.2.1, fun h => (hZ g h).elim (h7 g hg).2.2.2 (fun h8 => by have := (h6.lt g hg).2; omega)⟩⟩
theorem GnAt.put (h : GnAt W q bp mp b ps u wr) {u' : Value} {x : ByteArray} (ho : w'.ownsRow 0 9 1 u' (ps ++ [x]).length (sts (ps ++ [x]))) (hK : Keep (fun g => u.ownBlock = some g) wr w') (hv : ∀ g, u'.ownBlock = some g → u.ownBlock = some g ∨ (wr.heap.size ≤ g ∧ g < w'.heap.size)) : GnAt W q bp mp b (ps ++ [x]) u' w' := by
  obtain ⟨h1, Z, h2, h3, h4, h5, h6, h7⟩ := h
  have hl := h4.lt
  refine ⟨h1.trans (hK.below (fun g hg => (h7 g hg).1) h1.size), Z, h2, h3, h4.keep hK (fun h => (h7 _ h).2.1 rfl) (fun h => (h7 _ h).2.2.1 rfl) (fun g hg h => (h7 g h).2.2.2 hg), h5, ho, fun g hg => ?_⟩
  rcases hv g hg with h8 | h8
  · exact h7 g h8
  · have hz := h1.size
    refine ⟨by omega, by omega, by omega, fun h9 => ?_⟩
    obtain ⟨_, _, _, _, _, _, _, _, e7, _⟩ := h4
    have := (e7 g h9).2.2
    omega
end
theorem less_all {a b : ByteArray} (h : bn a < bn b) : Op.bytesLess a.toList b.toList = true ∧ Op.bytesLess b.toList a.toList = false ∧ (a.toList == b.toList) = false ∧ (b.toList == a.toList) = false := by
  have h1 : a.data.toList ≠ b.data.toList := fun e => by
    rw [show bn a = bn b from e] at h
    exact bn_irrefl _ h
  rw [Go.Proofs.bytesLess_eq, Go.Proofs.bytesLess_eq, Lib.toList_data, Lib.toList_data]
  exact ⟨decide_eq_true h, decide_eq_false (fun h2 => bn_irrefl _ (List.lt_trans h h2)), beq_eq_false_iff_ne.2 h1, beq_eq_false_iff_ne.2 (Ne.symm h1)⟩
theorem getElem_bn (x : List UInt8) : encStr x = .string ⟨x.toArray⟩ ∧ bn ⟨x.toArray⟩ = x := ⟨rfl, by simp [bn]⟩

set_option maxRecDepth 100000 in
set_option maxHeartbeats 4000000 in
theorem gone_no (q : Qt) (bs : List BL) (A : Option Addr) (c : Nat) (w : World) (hk : ¬ q.ok) :
    Calls Try.prog 7 #[.agg #[.int .i64 q.a, .int .i64 q.b, .int .i64 q.c, .int .i64 q.d, .int .i64 q.e, .int .i64 q.f, .int .i64 q.h], .slice A bs.length c] w fun e w' => e = .returned (.bool true) ∧ Below w.heap.size w w' := by
  have hm := fun w' => made_no q bs A c w' hk
  have hr := fun w' => quotas.refRight_no q.a q.b q.c q.d q.e q.f q.h w' hk
  obtain ⟨kq, b0, z0⟩ := boxesQ q w
  go_enter Try.func7, Try.ntmps7
  go_wp2_with fail
  generalize (w.alloc (.cells #[.int .i64 q.a, .int .i64 q.b, .int .i64 q.c, .int .i64 q.d, .int .i64 q.e, .int .i64 q.f, .int .i64 q.h] 23)) = W at *
  refine (hr _).mono ?_
  rintro e1 w1 ⟨rfl, hb1⟩
  have b1 := b0.trans (hb1.mono b0.size)
  have kq1 := kq.below hb1 (Nat.lt_of_lt_of_le kq.lt (Nat.le_refl _))
  obtain ⟨c0, c1, c2, c3, c4, c5, c6⟩ := qcells kq1
  go_wp2_with fail
  refine (hm _).mono ?_
  rintro e2 w2 ⟨rfl, hb2⟩
  have b2 := b1.trans (hb2.mono b1.size)
  go_wp2_with fail
  go_ret
  exact ⟨rfl, b2⟩

set_option maxRecDepth 100000 in
set_option maxHeartbeats 4000000 in
theorem gone_yes (q : Qt) (bs : List BL) (A : Option Addr) (c : Nat) (w : World) (hk : q.ok) (hB : Bs w w.heap.size bs A c) :
    Calls Try.prog 7 #[.agg #[.int .i64 q.a, .int .i64 q.b, .int .i64 q.c, .int .i64 q.d, .int .i64 q.e, .int .i64 q.f, .int .i64 q.h], .slice A bs.length c] w fun e w' => e = .returned (.bool true) ∧ Below w.heap.size w w' := by
  have hbl : bs.length ≤ 140737488355328 := by have := hB.2.1; omega
  have hm := fun w' => new_ok q w' hk
  have hr := fun w' => quotas.refRight_ok q.a q.b q.c q.d q.e q.f q.h w' hk
  have hinv := fun j => BInv.plays hk ((bs.take j).map (·.l)) (BInv.nil hk)
  obtain ⟨kq, b0, z0⟩ := boxesQ q w
  go_enter Try.func7, Try.ntmps7
  go_wp2_with fail
  generalize (w.alloc (.cells #[.int .i64 q.a, .int .i64 q.b, .int .i64 q.c, .int .i64 q.d, .int .i64 q.e, .int .i64 q.f, .int .i64 q.h] 23)) = W at *
  refine (hr _).mono ?_
  rintro e1 w1 ⟨rfl, hb1⟩
  have b1 := b0.trans (hb1.mono b0.size)
  have kq1 := kq.below hb1 kq.lt
  obtain ⟨c0, c1, c2, c3, c4, c5, c6⟩ := qcells kq1
  have hBw := hB
  go_wp2_with fail
  refine (hm _).mono ?_
  rintro e2 w2 ⟨bp, rfl, hb2, mp, Z, h2, h3, h4, h5⟩
  have M2 : MdHead W q bp mp ⟨[], []⟩ w2 := ⟨hb1.trans (hb2.mono hb1.size), Z, Nat.le_trans hb1.size h2, Nat.le_trans hb1.size h3, h4, fun g hg => Nat.le_trans hb1.size ((h5 g hg).elim (fun h => h.elim) id)⟩
  have E0 := GnAt.of M2
  have hlt2 := M2.lt
  clear hr hm M2 h2 h3 h4 h5 hb1 hb2 c0 c1 c2 c3 c4 c5 c6 kq1 b1
  go_upto_block 0 with (fail)
  go_cut [7] (fun v wx => Below W.heap.size W wx)
  case first =>
    go_wp2_with fail
    go_loopw [40, 7] (fun i v wr => ∃ j : Nat, j ≤ bs.length ∧ j ≤ 30 ∧ i = .int .i64 (j : Int) ∧ ∃ ps : List ByteArray, ps.length ≤ 8 * j ∧ GnAt W q bp mp (playsP q ⟨[], []⟩ ((bs.take j).map (·.l))) ps v wr ∧ Hid (∀ x, x ∈ brs ps ↔ x ∈ (playsP q ⟨[], []⟩ ((bs.take j).map (·.l))).P)) (fun i _ _ => bs.length - (intOf i).toNat)
    case atStart => exact ⟨0, Nat.zero_le _, by omega, rfl, [], Nat.zero_le _, E0, vers.lay (fun x => by simp [brs, playsP])⟩
    case round =>
      clear E0
      obtain ⟨j, hj, hj30, rfl, ps, hpl, hG, hps⟩ := hrel
      have bwr := b0.trans (hG.1.mono b0.size)
      by_cases hlt : j < bs.length
      · obtain ⟨b, off, rfl, hb, e0, hO⟩ := (hB.below bwr).at_ hlt
        by_cases h30 : j < 30
        · have d4 : decide ((30 : Int) ≤ (j : Int)) = false := decide_eq_false (by omega)
          have hI := hinv j
          rw [List.length_map, List.length_take] at hI
          have hp := GnAt.play hG hk hI (by omega) (hO.more bwr.size) (fun hn g off e => by have := os_lt hO hn g off e; omega)
          have hI2 := hI.play hk bs[j].l
          have hnx := vers.lay (plays_next (q := q) (b := ⟨[], []⟩) hlt)
          have hbad := playP_bad (q := q) (b := playsP q ⟨[], []⟩ ((bs.take j).map (·.l))) (ops := bs[j].l)
          have hgood := playP_good (q := q) (b := playsP q ⟨[], []⟩ ((bs.take j).map (·.l))) (ops := bs[j].l)
          have hres := playP_res q (playsP q ⟨[], []⟩ ((bs.take j).map (·.l))) bs[j].l
          have hPl := hI.plen
          have hOw := hB.2.2.2.2 _ (List.getElem_mem hlt)
          generalize playsP q ⟨[], []⟩ ((bs.take j).map (·.l)) = bj at hp hnx hG hps hbad hgood hres hI hI2 hPl
          generalize bs[j] = x at e0 hp hnx hbad hgood hres hO hI2 hOw
          obtain ⟨xl, xA, xc⟩ := x
          simp only [] at e0 hp hnx hbad hgood hres hO hI2 hOw
          have hxl : xl.length ≤ 140737488355328 := by have := hO.2.1; omega
          have hlen0 : (behindP q bj.L xl).2.1 = 0 → xl.length ≤ 8 := fun h => by have := (behind_len h).1; have := hk.2.2.2.2.2.1.2; omega
          generalize hs : playP q bj xl = s at hp hnx hbad hgood hres hI2
          generalize behindP q bj.L xl = r at hbad hgood hres hlen0
          obtain ⟨bf, er, at'⟩ := s
          obtain ⟨L', er', at2⟩ := r
          simp only [] at hp hnx hbad hgood hres hlen0 hI2
          obtain ⟨rfl, rfl⟩ : er = er' ∧ at' = at2 := by injection hres with h1 h2; exact ⟨h1, h2⟩
          clear hres hs hinv
          go_wp2_with fail
          refine hp.mono ?_
          rintro e3 w3 ⟨rfl, G3⟩
          clear hp hG
          by_cases he : er = 0
          · have d5 := eq_yes he
            have hx8 := hlen0 he
            have hbf : bf = ⟨L', wereP bj.P xl⟩ := by have := hgood he; injection this
            have HBF := vers.lay hbf
            clear hbf hbad hgood he
            go_wp2_with fail
            go_loopw [55, 7] (fun i v wr => ∃ k : Nat, k ≤ xl.length ∧ i = .int .i64 (k : Int) ∧ GnAt W q bp mp bf (ps ++ pv (xl.take k)) v wr) (fun i _ _ => xl.length - (intOf i).toNat)
            case atStart => exact ⟨0, Nat.zero_le _, rfl, by simpa [pv] using G3⟩
            case round =>
              clear G3
              obtain ⟨k, hkl, rfl, hG⟩ := hrel
              have bwr2 := b0.trans (hG.1.mono b0.size)
              by_cases hlt2 : k < xl.length
              · obtain ⟨bk, off2, rfl, hbk, x0, x1, x2, x3⟩ := (hOw.below bwr2).at_ hlt2
                have hpy := vers.lay (fun h => pv_yes hlt2 h)
                have hpn := vers.lay (fun h => pv_no hlt2 h)
                have hpl := pv_len (xl.take k)
                rw [List.length_take] at hpl
                generalize xl[k] = y at x0 x1 x2 x3 hpy hpn
                obtain ⟨yk, ys, yv, yt⟩ := y
                simp only [] at x0 x1 x2 x3 hpy hpn
                have bZ : Below wr.heap.size wr (wr.alloc (.cells #[.int .i64 yk, .string ys, .string yv, .string yt] 62)) := (Below.refl _ _).alloc (Nat.le_refl _) _
                have HZ := hG.below bZ
                have kZ := Blk.new wr 62 #[.int .i64 yk, .string ys, .string yv, .string yt]
                have zZ := bZ.size
                generalize hWZ : wr.alloc (.cells #[.int .i64 yk, .string ys, .string yv, .string yt] 62) = WZ at *
                have lZ := kZ.lt
                have y0 := kZ.cell 0
                have y2 := kZ.cell 2
                simp only [List.getElem?_toArray, List.getElem?_cons_zero, List.getElem?_cons_succ] at y0 y2
                by_cases hy3 : yk = 3
                · have d6 := ne_no hy3
                  have HNK := vers.lay (hpn.out hy3)
                  clear hpn hpy hy3
                  go_wp2_with fail
                  exact ⟨⟨k + 1, hlt2, by go_num, by rw [HNK.out]; exact HZ⟩, by simp [intOf]; omega⟩
                · have d6 := ne_yes hy3
                  have HNK := vers.lay (hpy.out hy3)
                  clear hpn hpy hy3
                  generalize hpp : ps ++ pv (xl.take k) = pp at *
                  have hppl : pp.length ≤ 1000000 := by rw [← hpp, List.length_append]; omega
                  have HPP := vers.lay hpp
                  have hOZ := HZ.row
                  clear hpp
                  go_wp2_with (at_builtin; refine wp_text (b := yv) rfl _ _ rfl hOZ rfl rfl rfl (by omega) ?_; intro v9 w9 ho9 hk9 hv9 hz9)
                  exact ⟨⟨k + 1, hlt2, by go_num, by rw [HNK.out, ← List.append_assoc, HPP.out]; exact HZ.put ho9 hk9 hv9⟩, by simp [intOf]; omega⟩
              · obtain rfl : k = xl.length := by omega
                rw [List.take_length] at hG
                have HPS : Hid (∀ x, x ∈ brs (ps ++ pv xl) ↔ x ∈ bf.P) := vers.lay (fun x => by rw [HBF.out]; simp only []; rw [wereP_mem xl bj.P hI.put, show brs (ps ++ pv xl) = brs ps ++ brs (pv xl) by simp [brs], List.mem_append, hps.out])
                have hpsl : (ps ++ pv xl).length ≤ 8 * (j + 1) := by have := pv_len xl; rw [List.length_append]; omega
                generalize ps ++ pv xl = pn at *
                clear HBF hps hO hOw
                have hgp := vers.lay (fun x => goneP_mem (b := bf) (x := x))
                have hgu := goneP_up hI2.put
                have hall := hI2.inv.texts hk
                have hLl2 := hI2.inv.le hk
                go_wp2_with fail
                refine (MdHead.all hG.md hk hI2).mono ?_
                rintro e7 w7 ⟨hb7, v7, le7, rfl, hle7, hO7⟩
                obtain ⟨A7, c7, rfl, E7⟩ := hO7.es
                have hG7 := hG.below hb7
                have ht := texts_any le7 A7 c7 w7 E7.es (by rw [allE_pe, hle7]; exact hall)
                rw [allE_pe, hle7] at ht
                clear hG hO7 E7 hb7 hle7
                go_wp2_with fail
                refine ht.mono ?_
                rintro e8 w8 ⟨vL, rfl, hb8, hTL⟩
                have hG8 := hG7.below hb8
                clear ht hG7
                go_wp2_with fail
                refine (MdHead.gone hG8.md hk hI2 (by omega)).mono ?_
                rintro e9 w9 ⟨vG, rfl, hb9, hTG⟩
                have hG9 := hG8.below hb9
                have hTL9 := hTL.below hb9
                have hTP := hG9.txt (by omega)
                obtain ⟨AG, cG, rfl, hlG, hcG⟩ := txt_at hTG
                clear hG8 hTL hb8 hb9
                generalize fin (allP bf.L) = lv at *
                generalize hgn : goneP bf = gn at *
                have HGN := vers.lay hgn
                clear hgn
                have HGU := vers.lay hgu
                have HCG := vers.lay hcG
                clear hgu hcG
                go_wp2_with fail
                go_loopw [79] (fun i wr => ∃ k : Nat, k ≤ gn.length ∧ i = .int .i64 (k : Int) ∧ wr = w9) (fun i _ => gn.length - (intOf i).toNat)
                case atStart => exact ⟨0, Nat.zero_le _, rfl, rfl⟩
                case round =>
                  obtain ⟨k, hkl, rfl, rfl⟩ := hrel
                  by_cases hltk : k < gn.length
                  · obtain ⟨gg, rfl, _, hgg, hcc⟩ := HCG.out k hltk
                    have hmem := (hgp.out gn[k]).1 (List.getElem_mem hltk)
                    rw [(getElem_bn gn[k]).1] at hcc
                    have hi1 := in_ok vL _ _ ⟨gn[k].toArray⟩ _ hTL9 false (by rw [(getElem_bn gn[k]).2]; exact decide_eq_false hmem.2)
                    have hi2 := in_ok _ _ _ ⟨gn[k].toArray⟩ _ hTP true (by rw [(getElem_bn gn[k]).2]; exact decide_eq_true ((HPS.out _).2 hmem.1))
                    clear hmem
                    rcases Nat.eq_zero_or_pos k with hk0 | hk0
                    · subst hk0
                      generalize gn[0] = x at *
                      go_wp2_with fail
                      refine hi1.mono ?_
                      rintro e10 w10 ⟨rfl, rfl⟩
                      go_wp2_with fail
                      refine hi2.mono ?_
                      rintro e11 w11 ⟨rfl, rfl⟩
                      go_wp2_with fail
                      exact ⟨⟨0 + 1, hltk, by go_num, by first | exact rfl | trivial⟩, by simp [intOf]; omega⟩
                    · obtain ⟨m, rfl⟩ : ∃ m, k = m + 1 := ⟨k - 1, by omega⟩
                      obtain ⟨gg2, e2, _, hgg2, hcc2⟩ := HCG.out m (by omega)
                      injection e2 with e2
                      injection e2 with e2
                      subst e2
                      rw [(getElem_bn gn[m]).1] at hcc2
                      have hord : gn[m] < gn[m + 1] := List.pairwise_iff_getElem.1 HGU.out m (m + 1) (by omega) hltk (by omega)
                      have hord2 : bn ⟨gn[m].toArray⟩ < bn ⟨gn[m + 1].toArray⟩ := by rw [(getElem_bn gn[m]).2, (getElem_bn gn[m + 1]).2]; exact hord
                      have g1 : Op.bytesLess gn[m] gn[m + 1] = true := by rw [Go.Proofs.bytesLess_eq]; exact decide_eq_true hord
                      have hm1 : ((m : Int) + 1 - 1) = (m : Int) := by omega
                      clear hord hord2
                      generalize gn[m + 1] = x at *
                      generalize gn[m] = x' at *
                      go_wp2_with fail
                      refine hi1.mono ?_
                      rintro e10 w10 ⟨rfl, rfl⟩
                      go_wp2_with fail
                      refine hi2.mono ?_
                      rintro e11 w11 ⟨rfl, rfl⟩
                      go_wp2_with fail
                      exact ⟨⟨m + 1 + 1, hltk, by go_num, by first | exact rfl | trivial⟩, by simp [intOf]; omega⟩
                  · obtain rfl : k = gn.length := by omega
                    obtain ⟨AP, cP, rfl, hlP, hcP⟩ := txt_at hTP
                    have hpn : (brs pn).length = pn.length := brs_len _
                    rw [hpn] at hG9 ⊢
                    clear HCG HGU
                    go_wp2_with fail
                    go_loopw [109] (fun i wx => ∃ k : Nat, k ≤ pn.length ∧ i = .int .i64 (k : Int) ∧ wx = wr) (fun i _ => pn.length - (intOf i).toNat)
                    case atStart => exact ⟨0, Nat.zero_le _, rfl, rfl⟩
                    case round =>
                      obtain ⟨k, hkl, rfl, rfl⟩ := hrel
                      by_cases hltk : k < pn.length
                      · obtain ⟨gg, rfl, _, hgg, hcc⟩ := hcP k (by rw [hpn]; exact hltk)
                        have hmem := (HPS.out _).1 (List.getElem_mem (l := brs pn) (n := k) (by rw [hpn]; exact hltk))
                        generalize (brs pn)[k]'(by rw [hpn]; exact hltk) = x at hcc hmem
                        rw [(getElem_bn x).1] at hcc
                        by_cases hl : x ∈ lv
                        · have hi1 := in_ok vL _ _ ⟨x.toArray⟩ _ hTL9 true (by rw [(getElem_bn x).2]; exact decide_eq_true hl)
                          clear hl hmem
                          go_wp2_with fail
                          refine hi1.mono ?_
                          rintro e10 w10 ⟨rfl, rfl⟩
                          go_wp2_with fail
                          exact ⟨⟨k + 1, hltk, by go_num, by first | exact rfl | trivial⟩, by simp [intOf]; omega⟩
                        · have hi1 := in_ok vL _ _ ⟨x.toArray⟩ _ hTL9 false (by rw [(getElem_bn x).2]; exact decide_eq_false hl)
                          have hi2 := in_ok _ _ _ ⟨x.toArray⟩ _ hTG true (by rw [(getElem_bn x).2]; exact decide_eq_true ((hgp.out x).2 ⟨hmem, hl⟩))
                          clear hl hmem
                          go_wp2_with fail
                          refine hi1.mono ?_
                          rintro e10 w10 ⟨rfl, rfl⟩
                          go_wp2_with fail
                          refine hi2.mono ?_
                          rintro e11 w11 ⟨rfl, rfl⟩
                          go_wp2_with fail
                          exact ⟨⟨k + 1, hltk, by go_num, by first | exact rfl | trivial⟩, by simp [intOf]; omega⟩
                      · obtain rfl : k = pn.length := by omega
                        clear hcP
                        go_wp2_with fail
                        exact ⟨⟨j + 1, hlt, by omega, by go_num, pn, hpsl, by rw [hnx.out]; exact hG9, by rw [hnx.out]; exact HPS⟩, by simp [intOf]; omega⟩

          · have d5 := eq_no he
            obtain rfl : bf = bj := by have := hbad he; injection this
            clear hbad hgood hlen0
            have HE := vers.lay he
            clear he
            go_wp2_with fail
            go_loopw [55, 7] (fun i v wr => ∃ k : Nat, k ≤ xl.length ∧ i = .int .i64 (k : Int) ∧ GnAt W q bp mp bf (ps) v wr) (fun i _ _ => xl.length - (intOf i).toNat)
            case atStart => exact ⟨0, Nat.zero_le _, rfl, G3⟩
            case round =>
              clear G3
              obtain ⟨k, hkl, rfl, hG⟩ := hrel
              have bwr2 := b0.trans (hG.1.mono b0.size)
              by_cases hlt2 : k < xl.length
              · obtain ⟨bk, off2, rfl, hbk, x0, x1, x2, x3⟩ := (hOw.below bwr2).at_ hlt2
                generalize xl[k] = y at x0 x1 x2 x3
                obtain ⟨yk, ys, yv, yt⟩ := y
                simp only [] at x0 x1 x2 x3
                have bZ : Below wr.heap.size wr (wr.alloc (.cells #[.int .i64 yk, .string ys, .string yv, .string yt] 62)) := (Below.refl _ _).alloc (Nat.le_refl _) _
                have HZ := hG.below bZ
                go_wp2_with fail
                exact ⟨⟨k + 1, hlt2, by go_num, HZ⟩, by simp [intOf]; omega⟩
              · obtain rfl : k = xl.length := by omega
                have HPS : Hid (∀ x, x ∈ brs (ps) ↔ x ∈ bf.P) := hps
                have hpsl : (ps).length ≤ 8 * (j + 1) := by omega
                
                clear hps hO hOw
                have hgp := vers.lay (fun x => goneP_mem (b := bf) (x := x))
                have hgu := goneP_up hI2.put
                have hall := hI2.inv.texts hk
                have hLl2 := hI2.inv.le hk
                go_wp2_with fail
                refine (MdHead.all hG.md hk hI2).mono ?_
                rintro e7 w7 ⟨hb7, v7, le7, rfl, hle7, hO7⟩
                obtain ⟨A7, c7, rfl, E7⟩ := hO7.es
                have hG7 := hG.below hb7
                have ht := texts_any le7 A7 c7 w7 E7.es (by rw [allE_pe, hle7]; exact hall)
                rw [allE_pe, hle7] at ht
                clear hG hO7 E7 hb7 hle7
                go_wp2_with fail
                refine ht.mono ?_
                rintro e8 w8 ⟨vL, rfl, hb8, hTL⟩
                have hG8 := hG7.below hb8
                clear ht hG7
                go_wp2_with fail
                refine (MdHead.gone hG8.md hk hI2 (by omega)).mono ?_
                rintro e9 w9 ⟨vG, rfl, hb9, hTG⟩
                have hG9 := hG8.below hb9
                have hTL9 := hTL.below hb9
                have hTP := hG9.txt (by omega)
                obtain ⟨AG, cG, rfl, hlG, hcG⟩ := txt_at hTG
                clear hG8 hTL hb8 hb9
                generalize fin (allP bf.L) = lv at *
                generalize hgn : goneP bf = gn at *
                have HGN := vers.lay hgn
                clear hgn
                have HGU := vers.lay hgu
                have HCG := vers.lay hcG
                clear hgu hcG
                go_wp2_with fail
                go_loopw [79] (fun i wr => ∃ k : Nat, k ≤ gn.length ∧ i = .int .i64 (k : Int) ∧ wr = w9) (fun i _ => gn.length - (intOf i).toNat)
                case atStart => exact ⟨0, Nat.zero_le _, rfl, rfl⟩
                case round =>
                  obtain ⟨k, hkl, rfl, rfl⟩ := hrel
                  by_cases hltk : k < gn.length
                  · obtain ⟨gg, rfl, _, hgg, hcc⟩ := HCG.out k hltk
                    have hmem := (hgp.out gn[k]).1 (List.getElem_mem hltk)
                    rw [(getElem_bn gn[k]).1] at hcc
                    have hi1 := in_ok vL _ _ ⟨gn[k].toArray⟩ _ hTL9 false (by rw [(getElem_bn gn[k]).2]; exact decide_eq_false hmem.2)
                    have hi2 := in_ok _ _ _ ⟨gn[k].toArray⟩ _ hTP true (by rw [(getElem_bn gn[k]).2]; exact decide_eq_true ((HPS.out _).2 hmem.1))
                    clear hmem
                    rcases Nat.eq_zero_or_pos k with hk0 | hk0
                    · subst hk0
                      generalize gn[0] = x at *
                      go_wp2_with fail
                      refine hi1.mono ?_
                      rintro e10 w10 ⟨rfl, rfl⟩
                      go_wp2_with fail
                      refine hi2.mono ?_
                      rintro e11 w11 ⟨rfl, rfl⟩
                      go_wp2_with fail
                      exact ⟨⟨0 + 1, hltk, by go_num, by first | exact rfl | trivial⟩, by simp [intOf]; omega⟩
                    · obtain ⟨m, rfl⟩ : ∃ m, k = m + 1 := ⟨k - 1, by omega⟩
                      obtain ⟨gg2, e2, _, hgg2, hcc2⟩ := HCG.out m (by omega)
                      injection e2 with e2
                      injection e2 with e2
                      subst e2
                      rw [(getElem_bn gn[m]).1] at hcc2
                      have hord : gn[m] < gn[m + 1] := List.pairwise_iff_getElem.1 HGU.out m (m + 1) (by omega) hltk (by omega)
                      have hord2 : bn ⟨gn[m].toArray⟩ < bn ⟨gn[m + 1].toArray⟩ := by rw [(getElem_bn gn[m]).2, (getElem_bn gn[m + 1]).2]; exact hord
                      have g1 : Op.bytesLess gn[m] gn[m + 1] = true := by rw [Go.Proofs.bytesLess_eq]; exact decide_eq_true hord
                      have hm1 : ((m : Int) + 1 - 1) = (m : Int) := by omega
                      clear hord hord2
                      generalize gn[m + 1] = x at *
                      generalize gn[m] = x' at *
                      go_wp2_with fail
                      refine hi1.mono ?_
                      rintro e10 w10 ⟨rfl, rfl⟩
                      go_wp2_with fail
                      refine hi2.mono ?_
                      rintro e11 w11 ⟨rfl, rfl⟩
                      go_wp2_with fail
                      exact ⟨⟨m + 1 + 1, hltk, by go_num, by first | exact rfl | trivial⟩, by simp [intOf]; omega⟩
                  · obtain rfl : k = gn.length := by omega
                    obtain ⟨AP, cP, rfl, hlP, hcP⟩ := txt_at hTP
                    have hpn : (brs ps).length = ps.length := brs_len _
                    rw [hpn] at hG9 ⊢
                    clear HCG HGU
                    go_wp2_with fail
                    go_loopw [109] (fun i wx => ∃ k : Nat, k ≤ ps.length ∧ i = .int .i64 (k : Int) ∧ wx = wr) (fun i _ => ps.length - (intOf i).toNat)
                    case atStart => exact ⟨0, Nat.zero_le _, rfl, rfl⟩
                    case round =>
                      obtain ⟨k, hkl, rfl, rfl⟩ := hrel
                      by_cases hltk : k < ps.length
                      · obtain ⟨gg, rfl, _, hgg, hcc⟩ := hcP k (by rw [hpn]; exact hltk)
                        have hmem := (HPS.out _).1 (List.getElem_mem (l := brs ps) (n := k) (by rw [hpn]; exact hltk))
                        generalize (brs ps)[k]'(by rw [hpn]; exact hltk) = x at hcc hmem
                        rw [(getElem_bn x).1] at hcc
                        by_cases hl : x ∈ lv
                        · have hi1 := in_ok vL _ _ ⟨x.toArray⟩ _ hTL9 true (by rw [(getElem_bn x).2]; exact decide_eq_true hl)
                          clear hl hmem
                          go_wp2_with fail
                          refine hi1.mono ?_
                          rintro e10 w10 ⟨rfl, rfl⟩
                          go_wp2_with fail
                          exact ⟨⟨k + 1, hltk, by go_num, by first | exact rfl | trivial⟩, by simp [intOf]; omega⟩
                        · have hi1 := in_ok vL _ _ ⟨x.toArray⟩ _ hTL9 false (by rw [(getElem_bn x).2]; exact decide_eq_false hl)
                          have hi2 := in_ok _ _ _ ⟨x.toArray⟩ _ hTG true (by rw [(getElem_bn x).2]; exact decide_eq_true ((hgp.out x).2 ⟨hmem, hl⟩))
                          clear hl hmem
                          go_wp2_with fail
                          refine hi1.mono ?_
                          rintro e10 w10 ⟨rfl, rfl⟩
                          go_wp2_with fail
                          refine hi2.mono ?_
                          rintro e11 w11 ⟨rfl, rfl⟩
                          go_wp2_with fail
                          exact ⟨⟨k + 1, hltk, by go_num, by first | exact rfl | trivial⟩, by simp [intOf]; omega⟩
                      · obtain rfl : k = ps.length := by omega
                        clear hcP
                        go_wp2_with fail
                        exact ⟨⟨j + 1, hlt, by omega, by go_num, ps, hpsl, by rw [hnx.out]; exact hG9, by rw [hnx.out]; exact HPS⟩, by simp [intOf]; omega⟩

        · have d4 : decide ((30 : Int) ≤ (j : Int)) = true := decide_eq_true (by omega)
          obtain rfl : j = 30 := by omega
          go_wp2_with fail
          go_meet
          exact hG.1
      · obtain rfl : j = bs.length := by omega
        go_wp2_with fail
        go_meet
        exact hG.1
  case rest =>
    clear E0 hinv
    go_wp2_with fail
    go_ret
    exact ⟨rfl, b0.trans (hcut.mono b0.size)⟩

theorem law_gone (q : Qt) (bs : List BL) (A : Option Addr) (c : Nat) (w : World) (hB : Bs w w.heap.size bs A c) :
    Calls Try.prog 7 #[.agg #[.int .i64 q.a, .int .i64 q.b, .int .i64 q.c, .int .i64 q.d, .int .i64 q.e, .int .i64 q.f, .int .i64 q.h], .slice A bs.length c] w fun e w' => e = .returned (.bool true) ∧ Below w.heap.size w w' := by
  by_cases hk : q.ok
  · exact gone_yes q bs A c w hk hB
  · exact gone_no q bs A c w hk

end Go.Proofs.Ytnhfpbllgjhcdaa.books
