/- The walk of BookEmpties. -/
import Derived.Test.YtnhfpbllgjhcdaaBkU


namespace Go.Proofs.Ytnhfpbllgjhcdaa.books
set_option linter.unusedVariables false
set_option linter.unusedSimpArgs false
open Go.RowKit Go.Shelf Go.Proofs.Ytnhfpbllgjhcdaa.base Go.Proofs.Ytnhfpbllgjhcdaa.quotas Go.Proofs.Ytnhfpbllgjhcdaa.vers Go.Proofs.Ytnhfpbllgjhcdaa.nodes Go.Proofs.Ytnhfpbllgjhcdaa.trees Go.Proofs.Ytnhfpbllgjhcdaa.texts

theorem txt_keep {S : Nat → Prop} {w w' : World} {lo : Nat} {v : Value} {ts : List (List UInt8)} (h : Txt w lo v ts) (hk : Keep S w w') (hS : ∀ g, S g → g < lo) : Txt w' lo v ts := by
  obtain ⟨A, c, e, hl, h⟩ := h
  refine ⟨A, c, e, hl, fun j hj => ?_⟩
  obtain ⟨g, h1, h2, h3, h4⟩ := h j hj
  exact ⟨g, h1, h2, Nat.lt_of_lt_of_le h3 hk.size, (hk.cell (p := ⟨g, j, none⟩) h3 (fun hs => by have := hS g hs; omega)).trans h4⟩
theorem txt_lower {w : World} {lo lo' : Nat} {v : Value} {ts : List (List UInt8)} (h : Txt w lo v ts) (hl : lo' ≤ lo) : Txt w lo' v ts := by
  obtain ⟨A, c, e, hn, h⟩ := h
  refine ⟨A, c, e, hn, fun j hj => ?_⟩
  obtain ⟨g, h1, h2, h3, h4⟩ := h j hj
  exact ⟨g, h1, by omega, h3, h4⟩
theorem insert_lo (v : Value) (lo : Nat) (ts : List (List UInt8)) (s : ByteArray) (w : World) (hT : Txt w lo v ts) (hn : ts.length ≤ 4000000) :
    Calls Try.prog 38 #[v, .string s] w fun e w' => ∃ v', e = .returned v' ∧ Below w.heap.size w w' ∧ Txt w' w.heap.size v' (insD (bn s) ts false) := insert_any v lo ts s.data.toList w hT hn
theorem name_ok {q : Qt} {x : PB} (h : books.fine q x) (hk : q.ok) : x.1.size ≠ 0 ∧ (x.1.size : Int) ≤ q.b := by
  have := h.1
  rw [nbad_yes hk] at this
  constructor
  · intro h0
    rw [if_pos h0] at this; cases this
  · by_cases h0 : x.1.size = 0
    · rw [if_pos h0] at this; cases this
    · rw [if_neg h0] at this
      by_cases h1 : q.b < (x.1.size : Int)
      · rw [if_pos h1] at this; cases this
      · omega
theorem del_head {q : Qt} (hk : q.ok) {x : PB} {r : List PB} (hI : Inv q (x :: r)) (v t : ByteArray) : oneP q (x :: r) ⟨3, x.1, v, t⟩ = (r, 0) := by
  obtain ⟨n1, n2⟩ := name_ok (hI.fine x List.mem_cons_self) hk
  have hr : rightO q ⟨3, x.1, v, t⟩ = 0 := by
    unfold rightO
    rw [if_neg (fun h => h.2.2 rfl), if_neg n1, if_neg (by show ¬ q.b < (x.1.size : Int); omega), if_neg (fun h => h.1 rfl)]
  have h2 : del (x :: r) x.1 = r := by
    have := (List.pairwise_cons.1 hI.up).1
    unfold del
    rw [List.filter_cons, if_neg (by simp)]
    exact List.filter_eq_self.2 fun y hy => by
      simp only [decide_eq_true_eq]
      intro e
      have := this y hy
      rw [e] at this
      exact bn_irrefl _ this
  rw [oneP_eq, if_neg (fun h => h hr), if_pos rfl]
  unfold takeP
  simp only [lk, if_true]
  rw [h2]
theorem Inv.drop {q : Qt} {L : List PB} (h : Inv q L) (k : Nat) : Inv q (L.drop k) :=
  ⟨h.up.sublist (List.drop_sublist k L), by have := h.len; rw [List.length_drop]; omega, fun x hx => h.fine x (List.mem_of_mem_drop hx)⟩
theorem play_del {q : Qt} (hk : q.ok) {L : List PB} (hI : Inv q L) (P : List (List UInt8)) {k : Nat} (hlt : k < L.length) (v t : ByteArray) : playP q ⟨L.drop k, P⟩ [⟨3, L[k].1, v, t⟩] = (⟨L.drop (k + 1), P⟩, 0, 0) := by
  rw [playP_one hk]
  have h := hI.drop k
  rw [List.drop_eq_getElem_cons hlt] at h
  simp only [List.drop_eq_getElem_cons hlt, del_head hk h v t]
  simp [wereP_one]

set_option maxRecDepth 100000 in
set_option maxHeartbeats 4000000 in
theorem empties_no (q : Qt) (bs : List BL) (A : Option Addr) (c : Nat) (w : World) (hk : ¬ q.ok) :
    Calls Try.prog 10 #[.agg #[.int .i64 q.a, .int .i64 q.b, .int .i64 q.c, .int .i64 q.d, .int .i64 q.e, .int .i64 q.f, .int .i64 q.h], .slice A bs.length c] w fun e w' => e = .returned (.bool true) ∧ Below w.heap.size w w' := by
  have hm := fun w' => new_no q w' hk
  have hr := fun w' => quotas.refRight_no q.a q.b q.c q.d q.e q.f q.h w' hk
  obtain ⟨kq, b0, z0⟩ := boxesQ q w
  go_enter Try.func10, Try.ntmps10
  go_wp2_with fail
  generalize (w.alloc (.cells #[.int .i64 q.a, .int .i64 q.b, .int .i64 q.c, .int .i64 q.d, .int .i64 q.e, .int .i64 q.f, .int .i64 q.h] 23)) = W at *
  refine (hm _).mono ?_
  rintro e1 w1 ⟨rfl, hb1⟩
  have b1 := b0.trans (hb1.mono b0.size)
  have kq1 := kq.below hb1 kq.lt
  obtain ⟨c0, c1, c2, c3, c4, c5, c6⟩ := qcells kq1
  go_wp2_with fail
  refine (hr _).mono ?_
  rintro e2 w2 ⟨rfl, hb2⟩
  have b2 := b1.trans (hb2.mono b1.size)
  go_wp2_with fail
  go_ret
  exact ⟨rfl, b2⟩
/-- where a loop stands: the book, and a row of texts apart from it -/
def EpHead (W : World) (q : Qt) (bp mp : Nat) (B : Nat) (b : Bk) (ts : List (List UInt8)) (v : Value) (wr : World) : Prop := MdHead W q bp mp b wr ∧ Txt wr B v ts ∧ B ≤ wr.heap.size
theorem EpHead.below {W : World} {q : Qt} {bp mp B : Nat} {b : Bk} {ts : List (List UInt8)} {v : Value} {wr w' : World} (h : EpHead W q bp mp B b ts v wr) (hb : Below wr.heap.size wr w') : EpHead W q bp mp B b ts v w' := ⟨h.1.below hb, h.2.1.below hb, Nat.le_trans h.2.2 hb.size⟩
theorem EpHead.box {W : World} {q : Qt} {bp mp B : Nat} {b : Bk} {ts : List (List UInt8)} {v : Value} {wr : World} (h : EpHead W q bp mp B b ts v wr) (o : Obj) : EpHead W q bp mp B b ts v (wr.alloc o) := h.below ((Below.refl _ _).alloc (Nat.le_refl _) _)
theorem EpHead.ins {W : World} {q : Qt} {bp mp B : Nat} {b : Bk} {ts ts' : List (List UInt8)} {v v' : Value} {wr w' : World} (h : EpHead W q bp mp B b ts v wr) (hb : Below wr.heap.size wr w') (hT : Txt w' wr.heap.size v' ts') : EpHead W q bp mp B b ts' v' w' := ⟨h.1.below hb, txt_lower hT h.2.2, Nat.le_trans h.2.2 hb.size⟩

set_option maxRecDepth 100000 in
set_option maxHeartbeats 4000000 in
theorem empties_ok (q : Qt) (bs : List BL) (A : Option Addr) (c : Nat) (w : World) (hk : q.ok) (hB : Bs w w.heap.size bs A c) :
    Calls Try.prog 10 #[.agg #[.int .i64 q.a, .int .i64 q.b, .int .i64 q.c, .int .i64 q.d, .int .i64 q.e, .int .i64 q.f, .int .i64 q.h], .slice A bs.length c] w fun e w' => e = .returned (.bool true) ∧ Below w.heap.size w w' := by
  have hbl : bs.length ≤ 140737488355328 := by have := hB.2.1; omega
  have hm := fun w' => new_ok q w' hk
  have hr := fun w' => quotas.refRight_ok q.a q.b q.c q.d q.e q.f q.h w' hk
  have hinv := fun j => BInv.plays hk ((bs.take j).map (·.l)) (BInv.nil hk)
  have hfin := made_inv hk bs
  obtain ⟨kq, b0, z0⟩ := boxesQ q w
  go_enter Try.func10, Try.ntmps10
  go_wp2_with fail
  generalize (w.alloc (.cells #[.int .i64 q.a, .int .i64 q.b, .int .i64 q.c, .int .i64 q.d, .int .i64 q.e, .int .i64 q.f, .int .i64 q.h] 23)) = W at *
  refine (hm _).mono ?_
  rintro e1 w1 ⟨bp, rfl, hb1, mp, Z, h2, h3, h4, h5⟩
  have M1 : MdHead W q bp mp ⟨[], []⟩ w1 := ⟨hb1, Z, h2, h3, h4, fun g hg => (h5 g hg).elim (fun h => h.elim) id⟩
  have kq1 := kq.below M1.1 kq.lt
  obtain ⟨c0, c1, c2, c3, c4, c5, c6⟩ := qcells kq1
  clear hm h2 h3 h4 h5 hb1
  go_wp2_with fail
  refine (hr _).mono ?_
  rintro e2 w2 ⟨rfl, hb2⟩
  have M2 := M1.below hb2
  have hlt2 := M2.lt
  clear hr M1 c0 c1 c2 c3 c4 c5 c6 kq1
  have bA : Below w2.heap.size w2 (w2.alloc (.cells #[] 9)) := (Below.refl _ _).alloc (Nat.le_refl _) _
  have E0 : EpHead W q bp mp w2.heap.size ⟨[], []⟩ [] (.slice (some ⟨w2.heap.size, 0, none⟩) 0 0) (w2.alloc (.cells #[] 9)) := ⟨M2.below bA, ⟨_, 0, rfl, Nat.zero_le _, fun j hj => absurd hj (Nat.not_lt_zero _)⟩, bA.size⟩
  clear M2 bA
  go_upto_block 0 with (fail)
  go_cut [7] (fun v wx => EpHead W q bp mp w2.heap.size (madeP q bs) (madeP q bs).P v wx)
  case first =>
    go_wp2_with fail
    go_loopw [37, 7] (fun i v wr => ∃ j : Nat, j ≤ bs.length ∧ j ≤ 40 ∧ i = .int .i64 (j : Int) ∧ EpHead W q bp mp w2.heap.size (playsP q ⟨[], []⟩ ((bs.take j).map (·.l))) (playsP q ⟨[], []⟩ ((bs.take j).map (·.l))).P v wr) (fun i _ _ => bs.length - (intOf i).toNat)
    case atStart => exact ⟨0, Nat.zero_le _, by omega, rfl, E0⟩
    case round =>
      clear E0
      obtain ⟨j, hj, hj40, rfl, hM, hTx, hBz⟩ := hrel
      have bwr := b0.trans (hM.1.mono b0.size)
      by_cases hlt : j < bs.length
      · obtain ⟨b, off, rfl, hb, e0, hO⟩ := (hB.below bwr).at_ hlt
        by_cases h40 : j < 40
        · have d4 : decide ((40 : Int) ≤ (j : Int)) = false := decide_eq_false (by omega)
          have hI := hinv j
          rw [List.length_map, List.length_take] at hI
          have hp := MdHead.play hM hk hI (by omega) (hO.more bwr.size) (fun hn g off e => by have := os_lt hO hn g off e; omega)
          have hI2 := hI.play hk bs[j].l
          have hnx := vers.lay (plays_next (q := q) (b := ⟨[], []⟩) hlt)
          have hbad := playP_bad (q := q) (b := playsP q ⟨[], []⟩ ((bs.take j).map (·.l))) (ops := bs[j].l)
          have hgood := playP_good (q := q) (b := playsP q ⟨[], []⟩ ((bs.take j).map (·.l))) (ops := bs[j].l)
          have hres := playP_res q (playsP q ⟨[], []⟩ ((bs.take j).map (·.l))) bs[j].l
          have hPl := hI.plen
          have hOw := hB.2.2.2.2 _ (List.getElem_mem hlt)
          generalize playsP q ⟨[], []⟩ ((bs.take j).map (·.l)) = bj at hp hnx hM hTx hbad hgood hres hI hI2 hPl
          generalize bs[j] = x at e0 hp hnx hbad hgood hres hO hI2 hOw
          obtain ⟨xl, xA, xc⟩ := x
          simp only [] at e0 hp hnx hbad hgood hres hO hI2 hOw
          have hxl : xl.length ≤ 140737488355328 := by have := hO.2.1; omega
          have hlen0 : (behindP q bj.L xl).2.1 = 0 → xl.length ≤ 8 := fun h => by have := (behind_len h).1; have := hk.2.2.2.2.2.1.2; omega
          generalize hs : playP q bj xl = s at hp hnx hbad hgood hres hI2
          generalize behindP q bj.L xl = r at hbad hgood hres hlen0
          obtain ⟨bf, er, at'⟩ := s
          obtain ⟨L', er', at2⟩ := r
          simp only [] at hp hnx hbad hgood hres hlen0 hI2
          obtain ⟨rfl, rfl⟩ : er = er' ∧ at' = at2 := by injection hres with h1 h2; exact ⟨h1, h2⟩
          clear hres hs hinv
          go_wp2_with fail
          refine hp.mono ?_
          rintro e3 w3 ⟨rfl, M3, hK3⟩
          have T3 := txt_keep hTx hK3 (fun g hg => by rcases hg with rfl | rfl <;> omega)
          have B3 := Nat.le_trans hBz hK3.size
          have bw3 := b0.trans (M3.1.mono b0.size)
          clear hp hM hTx
          by_cases he : er = 0
          · have d5 := eq_yes he
            have hx8 := hlen0 he
            have hbf : bf = ⟨L', wereP bj.P xl⟩ := by have := hgood he; injection this
            have HBF := vers.lay hbf
            clear hbf hbad hgood he
            go_wp2_with fail
            go_loopw [52, 7] (fun i v wr => ∃ k : Nat, k ≤ xl.length ∧ i = .int .i64 (k : Int) ∧ EpHead W q bp mp w2.heap.size bf (wereP bj.P (xl.take k)) v wr) (fun i _ _ => xl.length - (intOf i).toNat)
            case atStart => exact ⟨0, Nat.zero_le _, rfl, M3, T3, B3⟩
            case round =>
              obtain ⟨k, hkl, rfl, hM, hTx, hBz2⟩ := hrel
              have bwr2 := b0.trans (hM.1.mono b0.size)
              by_cases hlt2 : k < xl.length
              · obtain ⟨bk, off2, rfl, hbk, x0, x1, x2, x3⟩ := (hOw.below bwr2).at_ hlt2
                have hfy := hOw.2.2.2.2 _ (List.getElem_mem hlt2)
                have hnk := wereP_take (P := bj.P) hlt2
                have hle := wereP_len (xl.take k) bj.P
                rw [List.length_take] at hle
                generalize xl[k] = y at x0 x1 x2 x3 hfy hnk
                obtain ⟨yk, ys, yv, yt⟩ := y
                simp only [] at x0 x1 x2 x3 hfy hnk
                have HE2 := EpHead.box (b := bf) ⟨hM, hTx, hBz2⟩ (.cells #[.int .i64 yk, .string ys, .string yv, .string yt] 62)
                rw [wereP_one] at hnk
                simp only [] at hnk
                by_cases hy3 : yk = 3
                · have d6 := ne_no hy3
                  rw [if_neg (fun h => h hy3)] at hnk
                  have HNK := vers.lay hnk
                  clear hnk hy3
                  go_wp2_with fail
                  exact ⟨⟨k + 1, hlt2, by go_num, by rw [HNK.out]; exact HE2⟩, by simp [intOf]; omega⟩
                · have d6 := ne_yes hy3
                  rw [if_pos hy3] at hnk
                  have HNK := vers.lay hnk
                  clear hnk hy3
                  go_wp2_with fail
                  refine (insert_lo _ _ _ yv _ HE2.2.1 (by omega)).mono ?_
                  rintro e7 w7 ⟨v7, rfl, hb7, hT7⟩
                  have HE7 := HE2.ins hb7 hT7
                  go_wp2_with fail
                  exact ⟨⟨k + 1, hlt2, by go_num, by rw [HNK.out]; exact HE7⟩, by simp [intOf]; omega⟩
              · obtain rfl : k = xl.length := by omega
                rw [List.take_length] at hTx
                clear hO hOw
                go_wp2_with fail
                exact ⟨⟨j + 1, hlt, by omega, by go_num, by rw [hnx.out]; rw [HBF.out] at hM ⊢; exact ⟨hM, hTx, hBz2⟩⟩, by simp [intOf]; omega⟩
          · have d5 := eq_no he
            obtain rfl : bf = bj := by have := hbad he; injection this
            clear hbad hgood hlen0
            have HE := vers.lay he
            clear he
            go_wp2_with fail
            go_loopw [52, 7] (fun i v wr => ∃ k : Nat, k ≤ xl.length ∧ i = .int .i64 (k : Int) ∧ EpHead W q bp mp w2.heap.size bf bf.P v wr) (fun i _ _ => xl.length - (intOf i).toNat)
            case atStart => exact ⟨0, Nat.zero_le _, rfl, M3, T3, B3⟩
            case round =>
              obtain ⟨k, hkl, rfl, hM, hTx, hBz2⟩ := hrel
              have bwr2 := b0.trans (hM.1.mono b0.size)
              by_cases hlt2 : k < xl.length
              · obtain ⟨bk, off2, rfl, hbk, x0, x1, x2, x3⟩ := (hOw.below bwr2).at_ hlt2
                generalize xl[k] = y at x0 x1 x2 x3
                obtain ⟨yk, ys, yv, yt⟩ := y
                simp only [] at x0 x1 x2 x3
                have HE2 := EpHead.box (b := bf) ⟨hM, hTx, hBz2⟩ (.cells #[.int .i64 yk, .string ys, .string yv, .string yt] 62)
                go_wp2_with fail
                exact ⟨⟨k + 1, hlt2, by go_num, HE2⟩, by simp [intOf]; omega⟩
              · obtain rfl : k = xl.length := by omega
                clear hO hOw
                go_wp2_with fail
                exact ⟨⟨j + 1, hlt, by omega, by go_num, by rw [hnx.out]; exact ⟨hM, hTx, hBz2⟩⟩, by simp [intOf]; omega⟩
        · have d4 : decide ((40 : Int) ≤ (j : Int)) = true := decide_eq_true (by omega)
          obtain rfl : j = 40 := by omega
          go_wp2_with fail
          go_meet
          exact ⟨hM, hTx, hBz⟩
      · obtain rfl : j = bs.length := by omega
        go_wp2_with fail
        go_meet
        have e : bs.take 40 = bs.take bs.length := by rw [List.take_of_length_le (by omega), List.take_of_length_le (Nat.le_refl _)]
        show EpHead W q bp mp w2.heap.size (madeP q bs) (madeP q bs).P _ _
        unfold madeP
        rw [e]
        exact ⟨hM, hTx, hBz⟩
  case rest =>
    clear E0 hinv
    obtain ⟨hM, hTx, hBz⟩ := hcut
    generalize madeP q bs = b at hM hTx hfin
    obtain ⟨L, P⟩ := b
    simp only [] at hTx
    have hn := MdHead.names hM hk hfin (Ts.nil _ _)
    rw [names_all] at hn
    simp only [List.length_nil] at hn
    have hLl := hfin.inv.le hk
    simp only [] at hLl
    have hI := hfin.inv
    simp only [] at hI
    have hgn : goneP ⟨[], P⟩ = P := by
      unfold goneP
      refine List.filter_eq_self.2 fun v _ => ?_
      have : fin (allP []) = [] := by
        refine List.eq_nil_iff_forall_not_mem.2 fun x hx => ?_
        have := (fin_props (allP [])).2 x
        rw [this] at hx
        cases hx
      simp [this]
    go_wp2_with fail
    refine hn.mono ?_
    rintro e3 w3 ⟨v3, rfl, hb3, hT3⟩
    have hNl : ((nmB L).map bn).length = L.length := by simp
    obtain ⟨A3, c3, rfl, hll, hTn⟩ := txt_at hT3
    rw [hNl]
    have hltw := hM.lt
    have hE3 : EpHead W q bp mp w2.heap.size ⟨L.drop 0, P⟩ P u7 w3 := ⟨hM.below hb3, hTx.below hb3, Nat.le_trans hBz hb3.size⟩
    clear hM hTx hn
    have hBI := fun k => (⟨hI.drop k, hfin.put, hfin.plen⟩ : BInv q 40 ⟨L.drop k, P⟩)
    have HTN := vers.lay hTn
    clear hTn
    go_wp2_with fail
    go_loopw [72] (fun i wr => ∃ k : Nat, k ≤ L.length ∧ i = .int .i64 (k : Int) ∧ EpHead W q bp mp w2.heap.size ⟨L.drop k, P⟩ P u7 wr ∧ Txt wr wc.heap.size (.slice A3 ((nmB L).map bn).length c3) ((nmB L).map bn)) (fun i _ => L.length - (intOf i).toNat)
    case atStart => exact ⟨0, Nat.zero_le _, rfl, hE3, hT3⟩
    case round =>
      clear hE3 hT3
      obtain ⟨k, hkl, rfl, hE, hT⟩ := hrel
      by_cases hlt : k < L.length
      · obtain ⟨A4, c4, e4, _, hc4⟩ := id hT
        injection e4 with e41 _ e42
        subst e41 e42
        obtain ⟨g, rfl, hlo, hgl, hcc⟩ := hc4 k (by rw [hNl]; exact hlt)
        have hnk : ((nmB L).map bn)[k]'(by rw [hNl]; exact hlt) = bn L[k].1 := by simp
        rw [hnk, show encStr (bn L[k].1) = .string L[k].1 by simp [encStr, bn]] at hcc
        have hsz : L[k].1.size ≤ maxLen := by
          have := (name_ok (hI.fine _ (List.getElem_mem hlt)) hk).2
          have := hk.2.1.2
          unfold maxLen
          omega
        have hp := fun v t (hv : v.size ≤ maxLen) (ht : t.size ≤ maxLen) => MdHead.play_one hE.1 hk (hBI k) (by omega) ⟨3, L[k].1, v, t⟩ ⟨⟨by show -9223372036854775808 ≤ (3 : Int); decide, by show (3 : Int) ≤ 9223372036854775807; decide⟩, hsz, hv, ht⟩
        simp only [play_del hk hI P hlt] at hp
        generalize L[k].1 = nm at hcc hp
        have HT := vers.lay hT
        clear hT
        go_wp2_with fail
        refine (hp _ _ ?_ ?_).mono ?_
        rotate_left 2
        · rintro e5 w5 ⟨rfl, M5, hK5⟩
          have T5 := txt_keep hE.2.1 hK5 (fun g hg => by rcases hg with rfl | rfl <;> omega)
          have T6 := txt_keep HT.out hK5 (fun g hg => by rcases hg with rfl | rfl <;> omega)
          have z5 := hK5.size
          have hBz5 := Nat.le_trans hE.2.2 z5
          go_wp2_with fail
          exact ⟨⟨k + 1, hlt, by go_num, ⟨M5, T5, hBz5⟩, T6⟩, by simp [intOf]; omega⟩
        · decide
        · decide
      · obtain rfl : k = L.length := by omega
        have hBL := hBI L.length
        rw [List.drop_length] at hE hBL
        clear hBI hT HTN
        have bwr := b0.trans (hE.1.1.mono b0.size)
        go_wp2_with fail
        refine (MdHead.all hE.1 hk hBL).mono ?_
        rintro e5 w5 ⟨hb5, v5, le5, rfl, hle5, hO5⟩
        have hE5 := hE.below hb5
        obtain ⟨A5, c5, rfl, _⟩ := hO5.es
        have hl5 : le5.length = 0 := by have := congrArg List.length hle5; simpa using this
        rw [hl5]
        have hn5 := MdHead.names hE5.1 hk hBL (Ts.nil _ _)
        simp only [List.length_nil] at hn5
        go_wp2_with fail
        refine hn5.mono ?_
        rintro e6 w6 ⟨v6, rfl, hb6, hT6⟩
        have hE6 := hE5.below hb6
        obtain ⟨A6, c6, rfl, _, _⟩ := txt_at hT6
        have hl6 : (namesP ([] : List PB) []).length = 0 := rfl
        rw [hl6]
        have hg := MdHead.gone hE6.1 hk hBL (by omega)
        rw [hgn] at hg
        go_wp2_with fail
        refine hg.mono ?_
        rintro e7 w7 ⟨v7, rfl, hb7, hT7⟩
        have hst := sameTexts_any v7 u7 _ _ _ w7 hT7 (hE6.2.1.below hb7)
        go_wp2_with fail
        refine hst.mono ?_
        rintro e8 w8 ⟨rfl, hb8⟩
        go_wp2_with fail
        go_ret
        have z := hE6.1.1.size
        exact ⟨rfl, (b0.trans (hE6.1.1.mono b0.size)).trans ((hb7.mono (by have := b0.size; omega)).trans (hb8.mono (by have := b0.size; have := hb7.size; omega)))⟩

theorem law_empties (q : Qt) (bs : List BL) (A : Option Addr) (c : Nat) (w : World) (hB : Bs w w.heap.size bs A c) :
    Calls Try.prog 10 #[.agg #[.int .i64 q.a, .int .i64 q.b, .int .i64 q.c, .int .i64 q.d, .int .i64 q.e, .int .i64 q.f, .int .i64 q.h], .slice A bs.length c] w fun e w' => e = .returned (.bool true) ∧ Below w.heap.size w w' := by
  by_cases hk : q.ok
  · exact empties_ok q bs A c w hk hB
  · exact empties_no q bs A c w hk

end Go.Proofs.Ytnhfpbllgjhcdaa.books
