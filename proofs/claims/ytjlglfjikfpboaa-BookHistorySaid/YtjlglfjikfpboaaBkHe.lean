/- The walk of BookHistory. -/
import Derived.Test.YtjlglfjikfpboaaBkGa
import Derived.Test.YtjlglfjikfpboaaBkHd


namespace Go.Proofs.Ytjlglfjikfpboaa.books
set_option linter.unusedVariables false
set_option linter.unusedSimpArgs false
open Go.RowKit Go.Shelf Go.Proofs.Ytjlglfjikfpboaa.base Go.Proofs.Ytjlglfjikfpboaa.quotas Go.Proofs.Ytjlglfjikfpboaa.vers Go.Proofs.Ytjlglfjikfpboaa.nodes Go.Proofs.Ytjlglfjikfpboaa.trees Go.Proofs.Ytjlglfjikfpboaa.texts

theorem vs_of_own {w : World} {F : Nat → Prop} {s : ByteArray} {l : List V} {A : Option Addr} {c : Nat} (h : OwnVF w F ⟨s, l, A, c⟩) : Vs w w.heap.size l A c := by
  obtain ⟨A', c', e, h1, _⟩ := OwnV.vs (lo := 0) (⟨h.1, h.2.1, h.2.2.1⟩ : OwnV 0 w l (.slice A l.length c))
  cases e
  exact h1
abbrev Bd (M : Nat) (D : List TD) : Prop := ∀ x ∈ D, 0 ≤ x.n ∧ x.n ≤ (M : Int) ∧ x.l.length ≤ M
theorem Bd.more {M M' : Nat} {D : List TD} (h : Bd M D) (hM : M ≤ M') : Bd M' D := fun x hx => by
  obtain ⟨h1, h2, h3⟩ := h x hx
  exact ⟨h1, by omega, by omega⟩
/-- where a loop stands: the book, and what is told, apart from it -/
structure HsAt (W : World) (q : Qt) (bp mp lo : Nat) (b : Bk) (T : List TM) (A : Option Addr) (c : Nat) (wr : World) : Prop where
  md : MdHead W q bp mp b wr
  td : TDs wr wr.heap.size T A c
  lot : LoT lo T A
  blo : bp < lo ∧ mp < lo ∧ lo ≤ wr.heap.size
section
variable {W : World} {q : Qt} {bp mp lo : Nat} {b : Bk} {T : List TM} {A : Option Addr} {c : Nat} {wr w' : World} {n : Nat}
theorem HsAt.below (h : HsAt W q bp mp lo b T A c wr) (hb : Below wr.heap.size wr w') : HsAt W q bp mp lo b T A c w' :=
  ⟨h.md.below hb, h.td.at_world hb, h.lot, h.blo.1, h.blo.2.1, Nat.le_trans h.blo.2.2 hb.size⟩
theorem HsAt.bel (h : HsAt W q bp mp lo b T A c wr) : Below W.heap.size W wr := h.md.1
theorem HsAt.play (h : HsAt W q bp mp lo b T A c wr) (hk : q.ok) (hI : BInv q n b) (hn : n ≤ 1000) {ops : List O} {AO : Option Addr} {cO : Nat} (hO : Os wr wr.heap.size ops AO cO) (hA : ops ≠ [] → ∀ g off, AO = some ⟨g, off, none⟩ → g < W.heap.size) :
    Calls Try.prog 45 #[.pointer (some ⟨bp, 0, none⟩), .slice AO ops.length cO] wr fun e w' => e = .returned (.tuple #[.int .i64 (playP q b ops).2.1, .int .i64 (playP q b ops).2.2]) ∧ HsAt W q bp mp lo (playP q b ops).1 T A c w' := by
  obtain ⟨⟨h1, Z, h2, h3, h4, h5⟩, h6, h7, h8, h9, h10⟩ := h
  have hL := hI.inv.le hk
  have hP := hI.plen
  refine (play_any q bp mp Z b ops AO cO wr h4 hO (fun hn g off e => by have := hA hn g off e; omega) (by have := hk.2.2.2.2.2.1.2; omega) (by have := hk.2.2.2.2.2.1.2; omega)).mono ?_
  rintro e w' ⟨he, hK, Z', hB, hZ⟩
  have hT := h6.keep h7 hK (fun g hg => by rcases hg with rfl | rfl <;> assumption) (Nat.le_refl _)
  refine ⟨he, ⟨h1.trans (hK.below (fun g hg => by rcases hg with rfl | rfl <;> assumption) h1.size), Z', h2, h3, hB, fun g hg => (hZ g hg).elim (h5 g) (fun h => Nat.le_trans h1.size h)⟩, hT.more hK.size, h7, h8, h9, Nat.le_trans h10 hK.size⟩
end
theorem lk_getP {L : List PB} {s : ByteArray} {l : List V} (h : lk L s = some l) : getP L s = (s, l, true) := by unfold getP; rw [h]
theorem names_len {q : Qt} {D : List TD} {L : List PB} (h : Rel q D L) (hu : Up L) : (namesP L []).length = D.length := by
  rw [names_all, h.len hu]; simp [nmB]
theorem behindP_rowP {q : Qt} {L : List PB} {ops : List O} (h : (behindP q L ops).2.1 = 0) : behindP q L ops = rowP q L ops 0 := by
  by_cases hc : ops.length = 0 ∨ q.f < (ops.length : Int)
  · rw [behindP_batch hc] at h; cases h
  · exact behindP_row hc
theorem Rel.played {q : Qt} (hk : q.ok) {D : List TD} {L : List PB} {ops : List O} (hI : Inv q L) (h : Rel q D L) (h0 : (behindP q L ops).2.1 = 0) : Rel q (ops.foldl afterP D) (behindP q L ops).1 := by
  have e := behindP_rowP h0
  rw [e] at h0 ⊢
  exact Rel.row hk ops 0 hI h h0
theorem fold_next {ops : List O} {D : List TD} {k : Nat} (hk : k < ops.length) : (ops.take (k + 1)).foldl afterP D = afterP ((ops.take k).foldl afterP D) ops[k] := by
  rw [List.take_succ_eq_append_getElem hk, List.foldl_append]; rfl

set_option maxRecDepth 100000 in
set_option maxHeartbeats 4000000 in
theorem history_no (q : Qt) (bs : List BL) (A : Option Addr) (c : Nat) (w : World) (hk : ¬ q.ok) :
    Calls Try.prog 10 #[.agg #[.int .i64 q.a, .int .i64 q.b, .int .i64 q.c, .int .i64 q.d, .int .i64 q.e, .int .i64 q.f, .int .i64 q.h], .slice A bs.length c] w fun e w' => e = .returned (.bool true) ∧ Below w.heap.size w w' := by
  have hm := fun w' => new_no q w' hk
  have hr := fun w' => quotas.refRight_no q.a q.b q.c q.d q.e q.f q.h w' hk
  obtain ⟨kq, b0, z0⟩ := boxesQ q w
  go_enter Try.func10, Try.ntmps10
  go_wp2_with fail
  generalize (w.alloc (.cells #[.int .i64 q.a, .int .i64 q.b, .int .i64 q.c, .int .i64 q.d, .int .i64 q.e, .int .i64 q.f, .int .i64 q.h] 59)) = W at *
  obtain ⟨c0, c1, c2, c3, c4, c5, c6⟩ := qcells kq
  have lq := kq.lt
  go_wp2_with fail
  refine (hm _).mono ?_
  rintro e1 w1 ⟨rfl, hb1⟩
  have b1 := b0.trans (hb1.mono b0.size)
  have kq1 := kq.below hb1 (Nat.lt_of_lt_of_le kq.lt (Nat.le_refl _))
  clear c0 c1 c2 c3 c4 c5 c6
  obtain ⟨c0, c1, c2, c3, c4, c5, c6⟩ := qcells kq1
  have lq1 := kq1.lt
  go_wp2_with fail
  refine (hr _).mono ?_
  rintro e2 w2 ⟨rfl, hb2⟩
  have b2 := b1.trans (hb2.mono b1.size)
  go_wp2_with fail
  go_ret
  exact ⟨rfl, b2⟩

set_option maxRecDepth 100000 in
set_option maxHeartbeats 4000000 in
theorem history_yes (q : Qt) (bs : List BL) (A : Option Addr) (c : Nat) (w : World) (hk : q.ok) (hB : Bs w w.heap.size bs A c) :
    Calls Try.prog 10 #[.agg #[.int .i64 q.a, .int .i64 q.b, .int .i64 q.c, .int .i64 q.d, .int .i64 q.e, .int .i64 q.f, .int .i64 q.h], .slice A bs.length c] w fun e w' => e = .returned (.bool true) ∧ Below w.heap.size w w' := by
  have hbl : bs.length ≤ 140737488355328 := by have := hB.2.1; omega
  have hm := fun w' => new_ok q w' hk
  have hr := fun w' => quotas.refRight_ok q.a q.b q.c q.d q.e q.f q.h w' hk
  have hinv := fun j => BInv.plays hk ((bs.take j).map (·.l)) (BInv.nil hk)
  obtain ⟨kq, b0, z0⟩ := boxesQ q w
  go_enter Try.func10, Try.ntmps10
  go_wp2_with fail
  generalize (w.alloc (.cells #[.int .i64 q.a, .int .i64 q.b, .int .i64 q.c, .int .i64 q.d, .int .i64 q.e, .int .i64 q.f, .int .i64 q.h] 59)) = W at *
  obtain ⟨c0, c1, c2, c3, c4, c5, c6⟩ := qcells kq
  have lq := kq.lt
  go_wp2_with fail
  refine (hm _).mono ?_
  rintro e2 w2 ⟨bp, rfl, hb2, mp, Z, h2, h3, h4, h5⟩
  have M2 : MdHead W q bp mp ⟨[], []⟩ w2 := ⟨hb2, Z, h2, h3, h4, fun g hg => (h5 g hg).elim (fun h => h.elim) id⟩
  have kq2 := kq.below hb2 lq
  clear c0 c1 c2 c3 c4 c5 c6
  obtain ⟨c0, c1, c2, c3, c4, c5, c6⟩ := qcells kq2
  have lq2 := kq2.lt
  go_wp2_with fail
  refine (hr _).mono ?_
  rintro e1 w1 ⟨rfl, hb1⟩
  have hlt2 := M2.lt
  have E0 : HsAt W q bp mp w2.heap.size ⟨[], []⟩ [] none 0 w1 := ⟨M2.below hb1, TDs.nil _ _, LoT.nil _, hlt2.1.2, hlt2.2.2, hb1.size⟩
  clear hr hm M2 h2 h3 h4 h5 hb1 hb2 c0 c1 c2 c3 c4 c5 c6 kq2 lq2
  generalize w2.heap.size = lo at *
  go_upto_block 0 with (fail)
  go_cut [7] (fun v wx => Below W.heap.size W wx)
  case first =>
    go_wp2_with fail
    go_loopw [36, 7] (fun i v wr => ∃ j : Nat, j ≤ bs.length ∧ j ≤ 40 ∧ i = .int .i64 (j : Int) ∧ ∃ (T : List TM) (AT : Option Addr) (cT : Nat), v = .slice AT T.length cT ∧ T.length ≤ 8 * j ∧ HsAt W q bp mp lo (playsP q ⟨[], []⟩ ((bs.take j).map (·.l))) T AT cT wr ∧ Hid (Bd (8 * j) (T.map pT)) ∧ Hid (Rel q (T.map pT) (playsP q ⟨[], []⟩ ((bs.take j).map (·.l))).L)) (fun i _ _ => bs.length - (intOf i).toNat)
    case atStart => exact ⟨0, Nat.zero_le _, by omega, rfl, [], none, 0, rfl, Nat.zero_le _, E0, vers.lay (fun x hx => by cases hx), vers.lay (Rel.nil q)⟩
    case round =>
      clear E0
      obtain ⟨j, hj, hj40, rfl, T0, A0, c0', rfl, hT0, hH0, HB0, HR0⟩ := hrel
      have bwr := b0.trans (hH0.bel.mono b0.size)
      by_cases hlt : j < bs.length
      · obtain ⟨b, off, rfl, hb, e0, hO⟩ := (hB.below bwr).at_ hlt
        by_cases h40 : j < 40
        · have d4 : decide ((40 : Int) ≤ (j : Int)) = false := decide_eq_false (by omega)
          have hI := hinv j
          rw [List.length_map, List.length_take] at hI
          have hp := HsAt.play hH0 hk hI (by omega) (hO.more bwr.size) (fun hn g off e => by have := os_lt hO hn g off e; omega)
          have hI2 := hI.play hk bs[j].l
          have hnx := vers.lay (plays_next (q := q) (b := ⟨[], []⟩) hlt)
          have hbad := playP_bad (q := q) (b := playsP q ⟨[], []⟩ ((bs.take j).map (·.l))) (ops := bs[j].l)
          have hgood := playP_good (q := q) (b := playsP q ⟨[], []⟩ ((bs.take j).map (·.l))) (ops := bs[j].l)
          have hres := playP_res q (playsP q ⟨[], []⟩ ((bs.take j).map (·.l))) bs[j].l
          have hpl := Rel.played hk (ops := bs[j].l) hI.inv HR0.out
          have hOw := hB.2.2.2.2 _ (List.getElem_mem hlt)
          generalize playsP q ⟨[], []⟩ ((bs.take j).map (·.l)) = bj at hp hnx hH0 hbad hgood hres hI hI2 HR0 hpl
          generalize bs[j] = x at e0 hp hnx hbad hgood hres hO hI2 hOw hpl
          obtain ⟨xl, xA, xc⟩ := x
          simp only [] at e0 hp hnx hbad hgood hres hO hI2 hOw hpl
          have hxl : xl.length ≤ 140737488355328 := by have := hO.2.1; omega
          have hlen0 : (behindP q bj.L xl).2.1 = 0 → xl.length ≤ 8 := fun h => by have := (behind_len h).1; have := hk.2.2.2.2.2.1.2; omega
          generalize hs : playP q bj xl = s at hp hnx hbad hgood hres hI2
          generalize behindP q bj.L xl = r at hbad hgood hres hlen0 hpl
          obtain ⟨bf, er, at'⟩ := s
          obtain ⟨L', er', at2⟩ := r
          simp only [] at hp hnx hbad hgood hres hlen0 hI2 hpl
          obtain ⟨rfl, rfl⟩ : er = er' ∧ at' = at2 := by injection hres with h1 h2; exact ⟨h1, h2⟩
          obtain ⟨D0, hD0⟩ : ∃ D, T0.map pT = D := ⟨_, rfl⟩
          rw [hD0] at hpl
          have HD0 := vers.lay hD0
          clear hres hs hinv hD0
          go_wp2_with fail
          refine hp.mono ?_
          rintro e3 w3 ⟨rfl, H3⟩
          clear hp hH0
          by_cases he : er = 0
          · have d5 := eq_yes he
            have hx8 := hlen0 he
            have hbf : bf = ⟨L', wereP bj.P xl⟩ := by have := hgood he; injection this
            have HBF := vers.lay (show bf.L = L' by rw [hbf])
            have HPL := vers.lay (hpl he)
            clear hbf hbad hgood he hpl hlen0 HR0
            go_wp2_with fail
            go_loopw [51, 7] (fun i v wr => ∃ k : Nat, k ≤ xl.length ∧ i = .int .i64 (k : Int) ∧ ∃ (T : List TM) (AT : Option Addr) (cT : Nat), v = .slice AT T.length cT ∧ HsAt W q bp mp lo bf T AT cT wr ∧ Hid (T.map pT = (xl.take k).foldl afterP D0) ∧ Hid (Bd (8 * j + k) (T.map pT)) ∧ T.length ≤ 8 * j + k) (fun i _ _ => xl.length - (intOf i).toNat)
            case atStart => exact ⟨0, Nat.zero_le _, rfl, T0, A0, c0', rfl, H3, vers.lay (by simpa using HD0.out), HB0, hT0⟩
            case round =>
              clear H3
              obtain ⟨k, hkl, rfl, T, AT, cT, rfl, hH, HF, HBD, hTl⟩ := hrel
              have bwr2 := b0.trans (hH.bel.mono b0.size)
              by_cases hlt2 : k < xl.length
              · obtain ⟨bk, off2, rfl, hbk, x0, x1, x2, x3⟩ := (hOw.below bwr2).at_ hlt2
                have hyf := hOw.2.2.2.2 _ (List.getElem_mem hlt2)
                have hfn := vers.lay (fold_next (D := D0) hlt2)
                generalize xl[k] = y at x0 x1 x2 x3 hyf hfn
                obtain ⟨yk, ys, yv, yt⟩ := y
                simp only [] at x0 x1 x2 x3
                have bZ : Below wr.heap.size wr (wr.alloc (.cells #[.int .i64 yk, .string ys, .string yv, .string yt] 92)) := (Below.refl _ _).alloc (Nat.le_refl _) _
                have HZ := hH.below bZ
                have kZ := Blk.new wr 92 #[.int .i64 yk, .string ys, .string yv, .string yt]
                have zZ := bZ.size
                generalize hWZ : wr.alloc (.cells #[.int .i64 yk, .string ys, .string yv, .string yt] 92) = WZ at *
                have lZ := kZ.lt
                obtain ⟨y0, y1, y2, y3⟩ := ocells (x := ⟨yk, ys, yv, yt⟩) kZ
                have haf := after_ok T AT cT ⟨yk, ys, yv, yt⟩ WZ (8 * j + k) HZ.td (by omega) (by omega) HBD.out hyf
                clear hH
                go_wp2_with fail
                refine haf.mono ?_
                rintro e9 w9 ⟨T9, A9, c9, rfl, hb9, hT9, hp9, hl9⟩
                have hH9 : HsAt W q bp mp lo bf T9 A9 c9 w9 := ⟨HZ.md.below hb9, hT9, hl9 lo HZ.blo.2.2 HZ.lot, HZ.blo.1, HZ.blo.2.1, Nat.le_trans HZ.blo.2.2 hb9.size⟩
                have hlen9 : T9.length ≤ T.length + 1 := by
                  have h1 := afterP_len (T.map pT) ⟨yk, ys, yv, yt⟩
                  rw [← hp9, List.length_map, List.length_map] at h1
                  exact h1
                have HF9 := vers.lay (show T9.map pT = (xl.take (k + 1)).foldl afterP D0 by rw [hfn.out, hp9, HF.out])
                have HB9 := vers.lay (show Bd (8 * j + (k + 1)) (T9.map pT) by rw [hp9]; exact afterP_le HBD.out)
                clear hp9 hl9 haf hfn
                go_wp2_with fail
                exact ⟨⟨k + 1, hlt2, by go_num, T9, A9, c9, rfl, hH9, HF9, HB9, by omega⟩, by simp [intOf]; omega⟩
              · obtain rfl : k = xl.length := by omega
                rw [List.take_length] at HF
                have hTl8 : T.length ≤ 8 * (j + 1) := by omega
                replace HBD := vers.lay (HBD.out.more (show 8 * j + xl.length ≤ 8 * (j + 1) by omega))
                have HREL := vers.lay (show Rel q (T.map pT) bf.L by rw [HF.out, HBF.out]; exact HPL.out)
                clear HF
                have hRT : Rel q (T.map pT) bf.L := HREL.out
                have hln := names_len hRT hI2.inv.up
                rw [List.length_map] at hln
                have hlk := vers.lay (fun (x : TM) (hx : x ∈ T) => (hRT.told (pT x) (List.mem_map_of_mem hx)).1)
                have hnm : Calls Try.prog 41 #[.pointer (some ⟨bp, 0, none⟩), .slice none 0 0] wr fun e w' => ∃ v, e = .returned v ∧ Below wr.heap.size wr w' ∧ Txt w' wr.heap.size v (namesP bf.L []) := MdHead.names hH.md hk hI2 (ps := []) (A := none) (c := 0) ⟨Nat.le_refl _, by simp, fun _ => rfl, Rd.nil _ _ _, fun x hx => by cases hx⟩
                have hTl0 : T.length ≤ 140737488355328 := by omega
                have hbw := hH.bel
                clear hRT
                go_wp2_with fail
                refine hnm.mono ?_
                rintro e4 w4 ⟨v4, rfl, hb4, hT4⟩
                obtain ⟨AN, cN, hv4, _, _⟩ := txt_at hT4
                rw [hln] at hv4
                subst hv4
                have hH4 := hH.below hb4
                clear hH hT4 hnm hln
                go_wp2_with fail
                go_loopw [69] (fun i wx => ∃ k : Nat, k ≤ T.length ∧ i = .int .i64 (k : Int) ∧ Below w4.heap.size w4 wx) (fun i _ => T.length - (intOf i).toNat)
                case atStart => exact ⟨0, Nat.zero_le _, rfl, Below.refl _ _⟩
                case round =>
                  obtain ⟨k, hkl, rfl, hbx⟩ := hrel
                  have hHx := hH4.below hbx
                  by_cases hltk : k < T.length
                  · obtain ⟨bt, offt, eA, hbt, x0, x1, x2, hVx, hsx⟩ := hHx.td.at_ hltk
                    subst eA
                    have hlx := lk_getP (hlk.out T[k] (List.getElem_mem hltk))
                    have hbdx := HBD.out (pT T[k]) (List.mem_map_of_mem (List.getElem_mem hltk))
                    generalize T[k] = x at x0 x1 x2 hVx hsx hlx hbdx
                    obtain ⟨xs, yl, xA, xc, xn⟩ := x
                    simp only [pT] at x0 x1 x2 hVx hsx hlx hbdx
                    obtain ⟨K, hK⟩ : ∃ K : Nat, K = ((yl.length : Int) - q.e).toNat := ⟨_, rfl⟩
                    have hle : lastE q.e yl = yl.drop K := by unfold lastE; rw [hK]
                    rw [hle] at hlx
                    have hKl : K ≤ yl.length := by have := hk.2.2.2.2.1.1; omega
                    have hyl := hbdx.2.2
                    have hG0 := MdHead.get hHx.md hsx
                    obtain ⟨A8, c8, hsl, hVd⟩ := run_from hVx K hKl
                    have bZ : Below wr.heap.size wr (wr.alloc (.cells #[.string xs, .slice xA yl.length xc, .int .i64 xn] 95)) := (Below.refl _ _).alloc (Nat.le_refl _) _
                    have kZ := Blk.new wr 95 #[.string xs, .slice xA yl.length xc, .int .i64 xn]
                    have HZ := hHx.below bZ
                    have hVdZ := (hVd.below bZ).more bZ.size
                    have zZ := bZ.size
                    generalize hWZ : wr.alloc (.cells #[.string xs, .slice xA yl.length xc, .int .i64 xn] 95) = WZ at *
                    have lZ := kZ.lt
                    obtain ⟨y0, y1, y2⟩ := mcells kZ
                    have hg := MdHead.get HZ.md hsx
                    rw [hlx] at hg
                    have hHxs := hbx.size
                    clear hG0 hHx hVx hVd hlx hle hlk
                    go_wp2_with fail
                    refine hg.mono ?_
                    rintro e5 w5 ⟨hb5, A5, c5, rfl, hO5⟩
                    have hV5 : Vs w5 w5.heap.size (yl.drop K) A5 c5 := vs_of_own hO5
                    have hq4 := (kq.below ((hH4.bel.trans (hbx.mono hH4.bel.size)).trans ((bZ.trans (hb5.mono bZ.size)).mono (hH4.bel.trans (hbx.mono hH4.bel.size)).size)) lq)
                    obtain ⟨_, _, _, _, q4, _, _⟩ := qcells hq4
                    have k5 := kZ.below hb5 lZ
                    have hsl5 := (hVdZ.below hb5).more hb5.size
                    have bY := (Below.refl w5.heap.size w5).alloc (Nat.le_refl _) (.cells #[.string xs, .slice A5 (yl.drop K).length c5] 79)
                    have kY := Blk.new w5 79 #[.string xs, .slice A5 (yl.drop K).length c5]
                    have kt := k5.below bY k5.lt
                    have hq5 := hq4.below bY hq4.lt
                    obtain ⟨_, _, _, _, z4, _, _⟩ := qcells hq5
                    have hV6 := (hV5.below bY).more bY.size
                    have hW6 := (hsl5.below bY).more bY.size
                    have hbY : Below w4.heap.size w4 (w5.alloc (.cells #[.string xs, .slice A5 (yl.drop K).length c5] 79)) := hbx.trans (((bZ.trans (hb5.mono bZ.size)).trans (bY.mono (by have := bZ.size; have := hb5.size; omega))).mono hbx.size)
                    clear q4 hV5 hsl5 hVdZ HZ hO5 hg
                    generalize yl.drop K = lv at *
                    go_wp2_with fail
                    clear y0 y1 y2
                    have lY := kY.lt
                    have v1 := kY.cell 1
                    simp only [List.getElem?_toArray, List.getElem?_cons_zero, List.getElem?_cons_succ] at v1
                    obtain ⟨_, y1, _⟩ := mcells kt
                    have lt1 := kt.lt
                    have lq5 := hq5.lt
                    generalize w5.alloc (.cells #[.string xs, .slice A5 lv.length c5] 79) = WY at *
                    have e1 : IntKind.i64.wrap ((yl.length : Int) - q.e) = (yl.length : Int) - q.e := IntWalk.i64_in _ (by have := hk.2.2.2.2.1; omega)
                    have HMX := vers.lay (show max ((yl.length : Int) - q.e) 0 = (K : Int) by omega)
                    have HMY := vers.lay (show max 0 ((yl.length : Int) - q.e) = (K : Int) by omega)
                    clear hK
                    have hS0 : Below WY.heap.size WY WY.drew := (Below.refl _ _).drew
                    refine mix.region_D (fun w' => Below WY.heap.size WY w') (fun _ => false) (by kernel_rfl) ?_
                    generalize WY.drew = Wd at hS0 ⊢
                    refine mix.D_take (i := 0) (v := ?_) rfl (by kernel_rfl) (by kernel_rfl) (fun _ _ _ h => h) (Or.inl ⟨by first | rfl | simp [Region.wanted, yielded], ?_⟩) hS0 ?_
                    rotate_left
                    · intro w' hSw
                      have y0 := (hSw.cell (p := ⟨w5.heap.size, 1, none⟩) lY).trans v1
                      have y1 := (hSw.cell (p := ⟨wr.heap.size, 1, none⟩) lt1).trans y1
                      have y2 := (hSw.cell (p := ⟨w.heap.size, 4, none⟩) lq5).trans z4
                      try simp only [List.getElem_toArray, List.getElem_cons_zero, List.getElem_cons_succ]
                      go_simp
                      exact rfl
                    try simp only [Act.put, List.setIfInBounds_toArray, List.set_cons_zero, List.set_cons_succ, List.getElem_toArray, List.getElem_cons_zero, List.getElem_cons_succ]
                    refine mix.D_take (i := 1) (v := ?_) rfl (by kernel_rfl) (by kernel_rfl) (fun _ _ _ h => h) (Or.inl ⟨by first | rfl | simp [Region.wanted, yielded], ?_⟩) hS0 ?_
                    rotate_left
                    · intro w' hSw
                      have y0 := (hSw.cell (p := ⟨w5.heap.size, 1, none⟩) lY).trans v1
                      have y1 := (hSw.cell (p := ⟨wr.heap.size, 1, none⟩) lt1).trans y1
                      have y2 := (hSw.cell (p := ⟨w.heap.size, 4, none⟩) lq5).trans z4
                      try simp only [List.getElem_toArray, List.getElem_cons_zero, List.getElem_cons_succ]
                      go_simp
                      exact rfl
                    try simp only [Act.put, List.setIfInBounds_toArray, List.set_cons_zero, List.set_cons_succ, List.getElem_toArray, List.getElem_cons_zero, List.getElem_cons_succ]
                    refine mix.D_take (i := 2) (v := ?_) rfl (by kernel_rfl) (by kernel_rfl) (fun _ _ _ h => h) (Or.inl ⟨by first | rfl | simp [Region.wanted, yielded], ?_⟩) hS0 ?_
                    rotate_left
                    · intro w' hSw
                      have y0 := (hSw.cell (p := ⟨w5.heap.size, 1, none⟩) lY).trans v1
                      have y1 := (hSw.cell (p := ⟨wr.heap.size, 1, none⟩) lt1).trans y1
                      have y2 := (hSw.cell (p := ⟨w.heap.size, 4, none⟩) lq5).trans z4
                      try simp only [List.getElem_toArray, List.getElem_cons_zero, List.getElem_cons_succ]
                      go_simp
                      exact rfl
                    try simp only [Act.put, List.setIfInBounds_toArray, List.set_cons_zero, List.set_cons_succ, List.getElem_toArray, List.getElem_cons_zero, List.getElem_cons_succ]
                    refine mix.D_take (i := 3) (v := ?_) rfl (by kernel_rfl) (by kernel_rfl) (fun _ _ _ h => h) (Or.inl ⟨by first | rfl | simp [Region.wanted, yielded], ?_⟩) hS0 ?_
                    rotate_left
                    · intro w' hSw
                      have y0 := (hSw.cell (p := ⟨w5.heap.size, 1, none⟩) lY).trans v1
                      have y1 := (hSw.cell (p := ⟨wr.heap.size, 1, none⟩) lt1).trans y1
                      have y2 := (hSw.cell (p := ⟨w.heap.size, 4, none⟩) lq5).trans z4
                      try simp only [List.getElem_toArray, List.getElem_cons_zero, List.getElem_cons_succ]
                      go_simp
                      exact rfl
                    try simp only [Act.put, List.setIfInBounds_toArray, List.set_cons_zero, List.set_cons_succ, List.getElem_toArray, List.getElem_cons_zero, List.getElem_cons_succ]
                    refine mix.D_take (i := 4) (v := ?_) rfl (by kernel_rfl) (by kernel_rfl) (fun _ _ _ h => h) (Or.inl ⟨by first | rfl | simp [Region.wanted, yielded], ?_⟩) hS0 ?_
                    rotate_left
                    · intro w' hSw
                      have y0 := (hSw.cell (p := ⟨w5.heap.size, 1, none⟩) lY).trans v1
                      have y1 := (hSw.cell (p := ⟨wr.heap.size, 1, none⟩) lt1).trans y1
                      have y2 := (hSw.cell (p := ⟨w.heap.size, 4, none⟩) lq5).trans z4
                      try simp only [List.getElem_toArray, List.getElem_cons_zero, List.getElem_cons_succ]
                      go_simp
                      exact rfl
                    try simp only [Act.put, List.setIfInBounds_toArray, List.set_cons_zero, List.set_cons_succ, List.getElem_toArray, List.getElem_cons_zero, List.getElem_cons_succ]
                    refine mix.D_take (i := 5) (v := ?_) rfl (by kernel_rfl) (by kernel_rfl) (fun _ _ _ h => h) (Or.inl ⟨by first | rfl | simp [Region.wanted, yielded], ?_⟩) hS0 ?_
                    rotate_left
                    · intro w' hSw
                      have y0 := (hSw.cell (p := ⟨w5.heap.size, 1, none⟩) lY).trans v1
                      have y1 := (hSw.cell (p := ⟨wr.heap.size, 1, none⟩) lt1).trans y1
                      have y2 := (hSw.cell (p := ⟨w.heap.size, 4, none⟩) lq5).trans z4
                      try simp only [List.getElem_toArray, List.getElem_cons_zero, List.getElem_cons_succ]
                      go_simp
                      exact rfl
                    try simp only [Act.put, List.setIfInBounds_toArray, List.set_cons_zero, List.set_cons_succ, List.getElem_toArray, List.getElem_cons_zero, List.getElem_cons_succ]
                    refine mix.D_take (i := 6) (v := ?_) rfl (by kernel_rfl) (by kernel_rfl) (fun _ _ _ h => h) (Or.inl ⟨by first | rfl | simp [Region.wanted, yielded], ?_⟩) hS0 ?_
                    rotate_left
                    · intro w' hSw
                      have y0 := (hSw.cell (p := ⟨w5.heap.size, 1, none⟩) lY).trans v1
                      have y1 := (hSw.cell (p := ⟨wr.heap.size, 1, none⟩) lt1).trans y1
                      have y2 := (hSw.cell (p := ⟨w.heap.size, 4, none⟩) lq5).trans z4
                      try simp only [List.getElem_toArray, List.getElem_cons_zero, List.getElem_cons_succ]
                      go_simp
                      exact rfl
                    try simp only [Act.put, List.setIfInBounds_toArray, List.set_cons_zero, List.set_cons_succ, List.getElem_toArray, List.getElem_cons_zero, List.getElem_cons_succ]
                    refine mix.D_take (i := 7) (v := ?_) rfl (by kernel_rfl) (by kernel_rfl) (fun _ _ _ h => h) (Or.inl ⟨by first | rfl | simp [Region.wanted, yielded], ?_⟩) hS0 ?_
                    rotate_left
                    · intro w' hSw
                      have y0 := (hSw.cell (p := ⟨w5.heap.size, 1, none⟩) lY).trans v1
                      have y1 := (hSw.cell (p := ⟨wr.heap.size, 1, none⟩) lt1).trans y1
                      have y2 := (hSw.cell (p := ⟨w.heap.size, 4, none⟩) lq5).trans z4
                      try simp only [List.getElem_toArray, List.getElem_cons_zero, List.getElem_cons_succ]
                      go_simp
                      exact rfl
                    try simp only [Act.put, List.setIfInBounds_toArray, List.set_cons_zero, List.set_cons_succ, List.getElem_toArray, List.getElem_cons_zero, List.getElem_cons_succ]
                    refine mix.D_take (i := 8) (v := ?_) rfl (by kernel_rfl) (by kernel_rfl) (fun _ _ _ h => h) (Or.inl ⟨by first | rfl | simp [Region.wanted, yielded], ?_⟩) hS0 ?_
                    rotate_left
                    · intro w' hSw
                      have y0 := (hSw.cell (p := ⟨w5.heap.size, 1, none⟩) lY).trans v1
                      have y1 := (hSw.cell (p := ⟨wr.heap.size, 1, none⟩) lt1).trans y1
                      have y2 := (hSw.cell (p := ⟨w.heap.size, 4, none⟩) lq5).trans z4
                      try simp only [List.getElem_toArray, List.getElem_cons_zero, List.getElem_cons_succ]
                      go_simp
                      exact rfl
                    try simp only [Act.put, List.setIfInBounds_toArray, List.set_cons_zero, List.set_cons_succ, List.getElem_toArray, List.getElem_cons_zero, List.getElem_cons_succ]
                    refine mix.D_take (i := 9) (v := ?_) rfl (by kernel_rfl) (by kernel_rfl) (fun _ _ _ h => h) (Or.inl ⟨by first | rfl | simp [Region.wanted, yielded], ?_⟩) hS0 ?_
                    rotate_left
                    · intro w' hSw
                      have y0 := (hSw.cell (p := ⟨w5.heap.size, 1, none⟩) lY).trans v1
                      have y1 := (hSw.cell (p := ⟨wr.heap.size, 1, none⟩) lt1).trans y1
                      have y2 := (hSw.cell (p := ⟨w.heap.size, 4, none⟩) lq5).trans z4
                      try simp only [List.getElem_toArray, List.getElem_cons_zero, List.getElem_cons_succ]
                      go_simp
                      exact rfl
                    try simp only [Act.put, List.setIfInBounds_toArray, List.set_cons_zero, List.set_cons_succ, List.getElem_toArray, List.getElem_cons_zero, List.getElem_cons_succ]
                    refine mix.D_take (i := 10) (v := ?_) rfl (by kernel_rfl) (by kernel_rfl) (fun _ _ _ h => h) (Or.inl ⟨by first | rfl | simp [Region.wanted, yielded], ?_⟩) hS0 ?_
                    rotate_left
                    · intro w' hSw
                      have y0 := (hSw.cell (p := ⟨w5.heap.size, 1, none⟩) lY).trans v1
                      have y1 := (hSw.cell (p := ⟨wr.heap.size, 1, none⟩) lt1).trans y1
                      have y2 := (hSw.cell (p := ⟨w.heap.size, 4, none⟩) lq5).trans z4
                      try simp only [List.getElem_toArray, List.getElem_cons_zero, List.getElem_cons_succ]
                      go_simp
                      exact rfl
                    try simp only [Act.put, List.setIfInBounds_toArray, List.set_cons_zero, List.set_cons_succ, List.getElem_toArray, List.getElem_cons_zero, List.getElem_cons_succ]
                    refine mix.D_take (i := 11) (v := ?_) rfl (by kernel_rfl) (by kernel_rfl) (fun _ _ _ h => h) (Or.inl ⟨by first | rfl | simp [Region.wanted, yielded], ?_⟩) hS0 ?_
                    rotate_left
                    · intro w' hSw
                      have y0 := (hSw.cell (p := ⟨w5.heap.size, 1, none⟩) lY).trans v1
                      have y1 := (hSw.cell (p := ⟨wr.heap.size, 1, none⟩) lt1).trans y1
                      have y2 := (hSw.cell (p := ⟨w.heap.size, 4, none⟩) lq5).trans z4
                      try simp only [List.getElem_toArray, List.getElem_cons_zero, List.getElem_cons_succ]
                      go_simp
                      exact rfl
                    try simp only [Act.put, List.setIfInBounds_toArray, List.set_cons_zero, List.set_cons_succ, List.getElem_toArray, List.getElem_cons_zero, List.getElem_cons_succ]
                    refine mix.D_take (i := 12) (v := ?_) rfl (by kernel_rfl) (by kernel_rfl) (fun _ _ _ h => h) (Or.inl ⟨by first | rfl | simp [Region.wanted, yielded], ?_⟩) hS0 ?_
                    rotate_left
                    · intro w' hSw
                      have y0 := (hSw.cell (p := ⟨w5.heap.size, 1, none⟩) lY).trans v1
                      have y1 := (hSw.cell (p := ⟨wr.heap.size, 1, none⟩) lt1).trans y1
                      have y2 := (hSw.cell (p := ⟨w.heap.size, 4, none⟩) lq5).trans z4
                      try simp only [List.getElem_toArray, List.getElem_cons_zero, List.getElem_cons_succ]
                      go_simp
                      exact rfl
                    try simp only [Act.put, List.setIfInBounds_toArray, List.set_cons_zero, List.set_cons_succ, List.getElem_toArray, List.getElem_cons_zero, List.getElem_cons_succ]
                    refine mix.D_take (i := 13) (v := .int .i64 (K : Int)) rfl (by kernel_rfl) (by kernel_rfl) (fun _ _ _ h => h) (Or.inl ⟨by first | rfl | simp [Region.wanted, yielded], ?_⟩) hS0 ?_
                    · intro w' hSw
                      have y0 := (hSw.cell (p := ⟨w5.heap.size, 1, none⟩) lY).trans v1
                      have y1 := (hSw.cell (p := ⟨wr.heap.size, 1, none⟩) lt1).trans y1
                      have y2 := (hSw.cell (p := ⟨w.heap.size, 4, none⟩) lq5).trans z4
                      try simp only [List.getElem_toArray, List.getElem_cons_zero, List.getElem_cons_succ]
                      go_simp
                      first | exact rfl | (rw [HMX.out]) | (rw [HMY.out]) | (simp only [HMX.out]; done) | (trace_state; sorry)
                    try simp only [Act.put, List.setIfInBounds_toArray, List.set_cons_zero, List.set_cons_succ, List.getElem_toArray, List.getElem_cons_zero, List.getElem_cons_succ]
                    refine mix.D_take (i := 14) (v := ?_) rfl (by kernel_rfl) (by kernel_rfl) (fun _ _ _ h => h) (Or.inl ⟨by first | rfl | simp [Region.wanted, yielded], ?_⟩) hS0 ?_
                    rotate_left
                    · intro w' hSw
                      have y0 := (hSw.cell (p := ⟨w5.heap.size, 1, none⟩) lY).trans v1
                      have y1 := (hSw.cell (p := ⟨wr.heap.size, 1, none⟩) lt1).trans y1
                      have y2 := (hSw.cell (p := ⟨w.heap.size, 4, none⟩) lq5).trans z4
                      try simp only [List.getElem_toArray, List.getElem_cons_zero, List.getElem_cons_succ]
                      go_simp
                      first | exact rfl | (trace_state; sorry)
                    try simp only [Act.put, List.setIfInBounds_toArray, List.set_cons_zero, List.set_cons_succ, List.getElem_toArray, List.getElem_cons_zero, List.getElem_cons_succ]
                    refine mix.D_one (k := 15) rfl (by kernel_rfl) (fun K' hK => ?_)
                    rw [if_pos (by first | rfl | simp [Region.wanted, yielded])]
                    simp only [List.getElem_toArray, List.getElem_cons_zero, List.getElem_cons_succ]
                    go_wp2_with fail
                    refine (likeVs_any lv lv A5 A8 c5 c8 _ ((hV6.below hS0).more hS0.size) ((hW6.below hS0).more hS0.size)).mono ?_
                    rintro e x1 ⟨rfl, hx1⟩
                    rw [decide_eq_true (rfl : lv = lv)]
                    have hd1 : Below WY.heap.size WY x1 := hS0.trans (hx1.mono hS0.size)
                    refine hK.out _ _ (fun _ => hd1) ?_
                    clear hK K'
                    try simp only [Act.put, List.setIfInBounds_toArray, List.set_cons_zero, List.set_cons_succ]
                    refine mix.D_take (i := 16) (v := ?_) rfl (by kernel_rfl) (by kernel_rfl) (fun _ _ _ h => h) (Or.inl ⟨by first | rfl | simp [Region.wanted, yielded], ?_⟩) hd1 ?_
                    rotate_left
                    · intro w' hSw
                      have y0 := (hSw.cell (p := ⟨w5.heap.size, 1, none⟩) lY).trans v1
                      have y1 := (hSw.cell (p := ⟨wr.heap.size, 1, none⟩) lt1).trans y1
                      have y2 := (hSw.cell (p := ⟨w.heap.size, 4, none⟩) lq5).trans z4
                      try simp only [List.getElem_toArray, List.getElem_cons_zero, List.getElem_cons_succ]
                      go_simp
                      exact rfl
                    try simp only [Act.put, List.setIfInBounds_toArray, List.set_cons_zero, List.set_cons_succ, List.getElem_toArray, List.getElem_cons_zero, List.getElem_cons_succ]
                    refine mix.D_take (i := 17) (v := ?_) rfl (by kernel_rfl) (by kernel_rfl) (fun _ _ _ h => h) (Or.inl ⟨by first | rfl | simp [Region.wanted, yielded], ?_⟩) hd1 ?_
                    rotate_left
                    · intro w' hSw
                      have y0 := (hSw.cell (p := ⟨w5.heap.size, 1, none⟩) lY).trans v1
                      have y1 := (hSw.cell (p := ⟨wr.heap.size, 1, none⟩) lt1).trans y1
                      have y2 := (hSw.cell (p := ⟨w.heap.size, 4, none⟩) lq5).trans z4
                      try simp only [List.getElem_toArray, List.getElem_cons_zero, List.getElem_cons_succ]
                      go_simp
                      exact rfl
                    try simp only [Act.put, List.setIfInBounds_toArray, List.set_cons_zero, List.set_cons_succ, List.getElem_toArray, List.getElem_cons_zero, List.getElem_cons_succ]
                    refine mix.D_done (by kernel_rfl) ?_ _
                    go_wp2_with fail
                    exact ⟨⟨k + 1, hltk, by go_num, hbY.trans (hd1.mono hbY.size)⟩, by simp [intOf]; omega⟩
                  · obtain rfl : k = T.length := by omega
                    clear hlk
                    go_wp2_with fail
                    exact ⟨⟨j + 1, hlt, by omega, by go_num, T, AT, cT, rfl, hTl8, by rw [hnx.out]; exact hHx, HBD, by rw [hnx.out]; exact HREL⟩, by simp [intOf]; omega⟩

          · have d5 := eq_no he
            obtain rfl : bf = bj := by have := hbad he; injection this
            clear hbad hgood hlen0 hpl
            have HE := vers.lay he
            clear he
            replace HR0 := vers.lay (show Rel q D0 bf.L by rw [← HD0.out]; exact HR0.out)
            go_wp2_with fail
            go_loopw [51, 7] (fun i v wr => ∃ k : Nat, k ≤ xl.length ∧ i = .int .i64 (k : Int) ∧ ∃ (T : List TM) (AT : Option Addr) (cT : Nat), v = .slice AT T.length cT ∧ HsAt W q bp mp lo bf T AT cT wr ∧ Hid (T.map pT = D0) ∧ Hid (Bd (8 * j) (T.map pT)) ∧ T.length ≤ 8 * j) (fun i _ _ => xl.length - (intOf i).toNat)
            case atStart => exact ⟨0, Nat.zero_le _, rfl, T0, A0, c0', rfl, H3, vers.lay HD0.out, HB0, hT0⟩
            case round =>
              clear H3
              obtain ⟨k, hkl, rfl, T, AT, cT, rfl, hH, HF, HBD, hTl⟩ := hrel
              have bwr2 := b0.trans (hH.bel.mono b0.size)
              by_cases hlt2 : k < xl.length
              · obtain ⟨bk, off2, rfl, hbk, x0, x1, x2, x3⟩ := (hOw.below bwr2).at_ hlt2
                have hyf := hOw.2.2.2.2 _ (List.getElem_mem hlt2)
                have hfn := vers.lay (fold_next (D := D0) hlt2)
                generalize xl[k] = y at x0 x1 x2 x3 hyf hfn
                obtain ⟨yk, ys, yv, yt⟩ := y
                simp only [] at x0 x1 x2 x3
                have bZ : Below wr.heap.size wr (wr.alloc (.cells #[.int .i64 yk, .string ys, .string yv, .string yt] 92)) := (Below.refl _ _).alloc (Nat.le_refl _) _
                have HZ := hH.below bZ
                clear hfn hyf
                go_wp2_with fail
                exact ⟨⟨k + 1, hlt2, by go_num, T, AT, cT, rfl, HZ, HF, HBD, hTl⟩, by simp [intOf]; omega⟩
              · obtain rfl : k = xl.length := by omega
                have hTl8 : T.length ≤ 8 * (j + 1) := by omega
                replace HBD := vers.lay (HBD.out.more (show 8 * j ≤ 8 * (j + 1) by omega))
                have HREL := vers.lay (show Rel q (T.map pT) bf.L by rw [HF.out]; exact HR0.out)
                clear HF
                have hRT : Rel q (T.map pT) bf.L := HREL.out
                have hln := names_len hRT hI2.inv.up
                rw [List.length_map] at hln
                have hlk := vers.lay (fun (x : TM) (hx : x ∈ T) => (hRT.told (pT x) (List.mem_map_of_mem hx)).1)
                have hnm : Calls Try.prog 41 #[.pointer (some ⟨bp, 0, none⟩), .slice none 0 0] wr fun e w' => ∃ v, e = .returned v ∧ Below wr.heap.size wr w' ∧ Txt w' wr.heap.size v (namesP bf.L []) := MdHead.names hH.md hk hI2 (ps := []) (A := none) (c := 0) ⟨Nat.le_refl _, by simp, fun _ => rfl, Rd.nil _ _ _, fun x hx => by cases hx⟩
                have hTl0 : T.length ≤ 140737488355328 := by omega
                have hbw := hH.bel
                clear hRT
                go_wp2_with fail
                refine hnm.mono ?_
                rintro e4 w4 ⟨v4, rfl, hb4, hT4⟩
                obtain ⟨AN, cN, hv4, _, _⟩ := txt_at hT4
                rw [hln] at hv4
                subst hv4
                have hH4 := hH.below hb4
                clear hH hT4 hnm hln
                go_wp2_with fail
                go_loopw [69] (fun i wx => ∃ k : Nat, k ≤ T.length ∧ i = .int .i64 (k : Int) ∧ Below w4.heap.size w4 wx) (fun i _ => T.length - (intOf i).toNat)
                case atStart => exact ⟨0, Nat.zero_le _, rfl, Below.refl _ _⟩
                case round =>
                  obtain ⟨k, hkl, rfl, hbx⟩ := hrel
                  have hHx := hH4.below hbx
                  by_cases hltk : k < T.length
                  · obtain ⟨bt, offt, eA, hbt, x0, x1, x2, hVx, hsx⟩ := hHx.td.at_ hltk
                    subst eA
                    have hlx := lk_getP (hlk.out T[k] (List.getElem_mem hltk))
                    have hbdx := HBD.out (pT T[k]) (List.mem_map_of_mem (List.getElem_mem hltk))
                    generalize T[k] = x at x0 x1 x2 hVx hsx hlx hbdx
                    obtain ⟨xs, yl, xA, xc, xn⟩ := x
                    simp only [pT] at x0 x1 x2 hVx hsx hlx hbdx
                    obtain ⟨K, hK⟩ : ∃ K : Nat, K = ((yl.length : Int) - q.e).toNat := ⟨_, rfl⟩
                    have hle : lastE q.e yl = yl.drop K := by unfold lastE; rw [hK]
                    rw [hle] at hlx
                    have hKl : K ≤ yl.length := by have := hk.2.2.2.2.1.1; omega
                    have hyl := hbdx.2.2
                    have hG0 := MdHead.get hHx.md hsx
                    obtain ⟨A8, c8, hsl, hVd⟩ := run_from hVx K hKl
                    have bZ : Below wr.heap.size wr (wr.alloc (.cells #[.string xs, .slice xA yl.length xc, .int .i64 xn] 95)) := (Below.refl _ _).alloc (Nat.le_refl _) _
                    have kZ := Blk.new wr 95 #[.string xs, .slice xA yl.length xc, .int .i64 xn]
                    have HZ := hHx.below bZ
                    have hVdZ := (hVd.below bZ).more bZ.size
                    have zZ := bZ.size
                    generalize hWZ : wr.alloc (.cells #[.string xs, .slice xA yl.length xc, .int .i64 xn] 95) = WZ at *
                    have lZ := kZ.lt
                    obtain ⟨y0, y1, y2⟩ := mcells kZ
                    have hg := MdHead.get HZ.md hsx
                    rw [hlx] at hg
                    have hHxs := hbx.size
                    clear hG0 hHx hVx hVd hlx hle hlk
                    go_wp2_with fail
                    refine hg.mono ?_
                    rintro e5 w5 ⟨hb5, A5, c5, rfl, hO5⟩
                    have hV5 : Vs w5 w5.heap.size (yl.drop K) A5 c5 := vs_of_own hO5
                    have hq4 := (kq.below ((hH4.bel.trans (hbx.mono hH4.bel.size)).trans ((bZ.trans (hb5.mono bZ.size)).mono (hH4.bel.trans (hbx.mono hH4.bel.size)).size)) lq)
                    obtain ⟨_, _, _, _, q4, _, _⟩ := qcells hq4
                    have k5 := kZ.below hb5 lZ
                    have hsl5 := (hVdZ.below hb5).more hb5.size
                    have bY := (Below.refl w5.heap.size w5).alloc (Nat.le_refl _) (.cells #[.string xs, .slice A5 (yl.drop K).length c5] 79)
                    have kY := Blk.new w5 79 #[.string xs, .slice A5 (yl.drop K).length c5]
                    have kt := k5.below bY k5.lt
                    have hq5 := hq4.below bY hq4.lt
                    obtain ⟨_, _, _, _, z4, _, _⟩ := qcells hq5
                    have hV6 := (hV5.below bY).more bY.size
                    have hW6 := (hsl5.below bY).more bY.size
                    have hbY : Below w4.heap.size w4 (w5.alloc (.cells #[.string xs, .slice A5 (yl.drop K).length c5] 79)) := hbx.trans (((bZ.trans (hb5.mono bZ.size)).trans (bY.mono (by have := bZ.size; have := hb5.size; omega))).mono hbx.size)
                    clear q4 hV5 hsl5 hVdZ HZ hO5 hg
                    generalize yl.drop K = lv at *
                    go_wp2_with fail
                    clear y0 y1 y2
                    have lY := kY.lt
                    have v1 := kY.cell 1
                    simp only [List.getElem?_toArray, List.getElem?_cons_zero, List.getElem?_cons_succ] at v1
                    obtain ⟨_, y1, _⟩ := mcells kt
                    have lt1 := kt.lt
                    have lq5 := hq5.lt
                    generalize w5.alloc (.cells #[.string xs, .slice A5 lv.length c5] 79) = WY at *
                    have e1 : IntKind.i64.wrap ((yl.length : Int) - q.e) = (yl.length : Int) - q.e := IntWalk.i64_in _ (by have := hk.2.2.2.2.1; omega)
                    have HMX := vers.lay (show max ((yl.length : Int) - q.e) 0 = (K : Int) by omega)
                    have HMY := vers.lay (show max 0 ((yl.length : Int) - q.e) = (K : Int) by omega)
                    clear hK
                    have hS0 : Below WY.heap.size WY WY.drew := (Below.refl _ _).drew
                    refine mix.region_D (fun w' => Below WY.heap.size WY w') (fun _ => false) (by kernel_rfl) ?_
                    generalize WY.drew = Wd at hS0 ⊢
                    refine mix.D_take (i := 0) (v := ?_) rfl (by kernel_rfl) (by kernel_rfl) (fun _ _ _ h => h) (Or.inl ⟨by first | rfl | simp [Region.wanted, yielded], ?_⟩) hS0 ?_
                    rotate_left
                    · intro w' hSw
                      have y0 := (hSw.cell (p := ⟨w5.heap.size, 1, none⟩) lY).trans v1
                      have y1 := (hSw.cell (p := ⟨wr.heap.size, 1, none⟩) lt1).trans y1
                      have y2 := (hSw.cell (p := ⟨w.heap.size, 4, none⟩) lq5).trans z4
                      try simp only [List.getElem_toArray, List.getElem_cons_zero, List.getElem_cons_succ]
                      go_simp
                      exact rfl
                    try simp only [Act.put, List.setIfInBounds_toArray, List.set_cons_zero, List.set_cons_succ, List.getElem_toArray, List.getElem_cons_zero, List.getElem_cons_succ]
                    refine mix.D_take (i := 1) (v := ?_) rfl (by kernel_rfl) (by kernel_rfl) (fun _ _ _ h => h) (Or.inl ⟨by first | rfl | simp [Region.wanted, yielded], ?_⟩) hS0 ?_
                    rotate_left
                    · intro w' hSw
                      have y0 := (hSw.cell (p := ⟨w5.heap.size, 1, none⟩) lY).trans v1
                      have y1 := (hSw.cell (p := ⟨wr.heap.size, 1, none⟩) lt1).trans y1
                      have y2 := (hSw.cell (p := ⟨w.heap.size, 4, none⟩) lq5).trans z4
                      try simp only [List.getElem_toArray, List.getElem_cons_zero, List.getElem_cons_succ]
                      go_simp
                      exact rfl
                    try simp only [Act.put, List.setIfInBounds_toArray, List.set_cons_zero, List.set_cons_succ, List.getElem_toArray, List.getElem_cons_zero, List.getElem_cons_succ]
                    refine mix.D_take (i := 2) (v := ?_) rfl (by kernel_rfl) (by kernel_rfl) (fun _ _ _ h => h) (Or.inl ⟨by first | rfl | simp [Region.wanted, yielded], ?_⟩) hS0 ?_
                    rotate_left
                    · intro w' hSw
                      have y0 := (hSw.cell (p := ⟨w5.heap.size, 1, none⟩) lY).trans v1
                      have y1 := (hSw.cell (p := ⟨wr.heap.size, 1, none⟩) lt1).trans y1
                      have y2 := (hSw.cell (p := ⟨w.heap.size, 4, none⟩) lq5).trans z4
                      try simp only [List.getElem_toArray, List.getElem_cons_zero, List.getElem_cons_succ]
                      go_simp
                      exact rfl
                    try simp only [Act.put, List.setIfInBounds_toArray, List.set_cons_zero, List.set_cons_succ, List.getElem_toArray, List.getElem_cons_zero, List.getElem_cons_succ]
                    refine mix.D_take (i := 3) (v := ?_) rfl (by kernel_rfl) (by kernel_rfl) (fun _ _ _ h => h) (Or.inl ⟨by first | rfl | simp [Region.wanted, yielded], ?_⟩) hS0 ?_
                    rotate_left
                    · intro w' hSw
                      have y0 := (hSw.cell (p := ⟨w5.heap.size, 1, none⟩) lY).trans v1
                      have y1 := (hSw.cell (p := ⟨wr.heap.size, 1, none⟩) lt1).trans y1
                      have y2 := (hSw.cell (p := ⟨w.heap.size, 4, none⟩) lq5).trans z4
                      try simp only [List.getElem_toArray, List.getElem_cons_zero, List.getElem_cons_succ]
                      go_simp
                      exact rfl
                    try simp only [Act.put, List.setIfInBounds_toArray, List.set_cons_zero, List.set_cons_succ, List.getElem_toArray, List.getElem_cons_zero, List.getElem_cons_succ]
                    refine mix.D_take (i := 4) (v := ?_) rfl (by kernel_rfl) (by kernel_rfl) (fun _ _ _ h => h) (Or.inl ⟨by first | rfl | simp [Region.wanted, yielded], ?_⟩) hS0 ?_
                    rotate_left
                    · intro w' hSw
                      have y0 := (hSw.cell (p := ⟨w5.heap.size, 1, none⟩) lY).trans v1
                      have y1 := (hSw.cell (p := ⟨wr.heap.size, 1, none⟩) lt1).trans y1
                      have y2 := (hSw.cell (p := ⟨w.heap.size, 4, none⟩) lq5).trans z4
                      try simp only [List.getElem_toArray, List.getElem_cons_zero, List.getElem_cons_succ]
                      go_simp
                      exact rfl
                    try simp only [Act.put, List.setIfInBounds_toArray, List.set_cons_zero, List.set_cons_succ, List.getElem_toArray, List.getElem_cons_zero, List.getElem_cons_succ]
                    refine mix.D_take (i := 5) (v := ?_) rfl (by kernel_rfl) (by kernel_rfl) (fun _ _ _ h => h) (Or.inl ⟨by first | rfl | simp [Region.wanted, yielded], ?_⟩) hS0 ?_
                    rotate_left
                    · intro w' hSw
                      have y0 := (hSw.cell (p := ⟨w5.heap.size, 1, none⟩) lY).trans v1
                      have y1 := (hSw.cell (p := ⟨wr.heap.size, 1, none⟩) lt1).trans y1
                      have y2 := (hSw.cell (p := ⟨w.heap.size, 4, none⟩) lq5).trans z4
                      try simp only [List.getElem_toArray, List.getElem_cons_zero, List.getElem_cons_succ]
                      go_simp
                      exact rfl
                    try simp only [Act.put, List.setIfInBounds_toArray, List.set_cons_zero, List.set_cons_succ, List.getElem_toArray, List.getElem_cons_zero, List.getElem_cons_succ]
                    refine mix.D_take (i := 6) (v := ?_) rfl (by kernel_rfl) (by kernel_rfl) (fun _ _ _ h => h) (Or.inl ⟨by first | rfl | simp [Region.wanted, yielded], ?_⟩) hS0 ?_
                    rotate_left
                    · intro w' hSw
                      have y0 := (hSw.cell (p := ⟨w5.heap.size, 1, none⟩) lY).trans v1
                      have y1 := (hSw.cell (p := ⟨wr.heap.size, 1, none⟩) lt1).trans y1
                      have y2 := (hSw.cell (p := ⟨w.heap.size, 4, none⟩) lq5).trans z4
                      try simp only [List.getElem_toArray, List.getElem_cons_zero, List.getElem_cons_succ]
                      go_simp
                      exact rfl
                    try simp only [Act.put, List.setIfInBounds_toArray, List.set_cons_zero, List.set_cons_succ, List.getElem_toArray, List.getElem_cons_zero, List.getElem_cons_succ]
                    refine mix.D_take (i := 7) (v := ?_) rfl (by kernel_rfl) (by kernel_rfl) (fun _ _ _ h => h) (Or.inl ⟨by first | rfl | simp [Region.wanted, yielded], ?_⟩) hS0 ?_
                    rotate_left
                    · intro w' hSw
                      have y0 := (hSw.cell (p := ⟨w5.heap.size, 1, none⟩) lY).trans v1
                      have y1 := (hSw.cell (p := ⟨wr.heap.size, 1, none⟩) lt1).trans y1
                      have y2 := (hSw.cell (p := ⟨w.heap.size, 4, none⟩) lq5).trans z4
                      try simp only [List.getElem_toArray, List.getElem_cons_zero, List.getElem_cons_succ]
                      go_simp
                      exact rfl
                    try simp only [Act.put, List.setIfInBounds_toArray, List.set_cons_zero, List.set_cons_succ, List.getElem_toArray, List.getElem_cons_zero, List.getElem_cons_succ]
                    refine mix.D_take (i := 8) (v := ?_) rfl (by kernel_rfl) (by kernel_rfl) (fun _ _ _ h => h) (Or.inl ⟨by first | rfl | simp [Region.wanted, yielded], ?_⟩) hS0 ?_
                    rotate_left
                    · intro w' hSw
                      have y0 := (hSw.cell (p := ⟨w5.heap.size, 1, none⟩) lY).trans v1
                      have y1 := (hSw.cell (p := ⟨wr.heap.size, 1, none⟩) lt1).trans y1
                      have y2 := (hSw.cell (p := ⟨w.heap.size, 4, none⟩) lq5).trans z4
                      try simp only [List.getElem_toArray, List.getElem_cons_zero, List.getElem_cons_succ]
                      go_simp
                      exact rfl
                    try simp only [Act.put, List.setIfInBounds_toArray, List.set_cons_zero, List.set_cons_succ, List.getElem_toArray, List.getElem_cons_zero, List.getElem_cons_succ]
                    refine mix.D_take (i := 9) (v := ?_) rfl (by kernel_rfl) (by kernel_rfl) (fun _ _ _ h => h) (Or.inl ⟨by first | rfl | simp [Region.wanted, yielded], ?_⟩) hS0 ?_
                    rotate_left
                    · intro w' hSw
                      have y0 := (hSw.cell (p := ⟨w5.heap.size, 1, none⟩) lY).trans v1
                      have y1 := (hSw.cell (p := ⟨wr.heap.size, 1, none⟩) lt1).trans y1
                      have y2 := (hSw.cell (p := ⟨w.heap.size, 4, none⟩) lq5).trans z4
                      try simp only [List.getElem_toArray, List.getElem_cons_zero, List.getElem_cons_succ]
                      go_simp
                      exact rfl
                    try simp only [Act.put, List.setIfInBounds_toArray, List.set_cons_zero, List.set_cons_succ, List.getElem_toArray, List.getElem_cons_zero, List.getElem_cons_succ]
                    refine mix.D_take (i := 10) (v := ?_) rfl (by kernel_rfl) (by kernel_rfl) (fun _ _ _ h => h) (Or.inl ⟨by first | rfl | simp [Region.wanted, yielded], ?_⟩) hS0 ?_
                    rotate_left
                    · intro w' hSw
                      have y0 := (hSw.cell (p := ⟨w5.heap.size, 1, none⟩) lY).trans v1
                      have y1 := (hSw.cell (p := ⟨wr.heap.size, 1, none⟩) lt1).trans y1
                      have y2 := (hSw.cell (p := ⟨w.heap.size, 4, none⟩) lq5).trans z4
                      try simp only [List.getElem_toArray, List.getElem_cons_zero, List.getElem_cons_succ]
                      go_simp
                      exact rfl
                    try simp only [Act.put, List.setIfInBounds_toArray, List.set_cons_zero, List.set_cons_succ, List.getElem_toArray, List.getElem_cons_zero, List.getElem_cons_succ]
                    refine mix.D_take (i := 11) (v := ?_) rfl (by kernel_rfl) (by kernel_rfl) (fun _ _ _ h => h) (Or.inl ⟨by first | rfl | simp [Region.wanted, yielded], ?_⟩) hS0 ?_
                    rotate_left
                    · intro w' hSw
                      have y0 := (hSw.cell (p := ⟨w5.heap.size, 1, none⟩) lY).trans v1
                      have y1 := (hSw.cell (p := ⟨wr.heap.size, 1, none⟩) lt1).trans y1
                      have y2 := (hSw.cell (p := ⟨w.heap.size, 4, none⟩) lq5).trans z4
                      try simp only [List.getElem_toArray, List.getElem_cons_zero, List.getElem_cons_succ]
                      go_simp
                      exact rfl
                    try simp only [Act.put, List.setIfInBounds_toArray, List.set_cons_zero, List.set_cons_succ, List.getElem_toArray, List.getElem_cons_zero, List.getElem_cons_succ]
                    refine mix.D_take (i := 12) (v := ?_) rfl (by kernel_rfl) (by kernel_rfl) (fun _ _ _ h => h) (Or.inl ⟨by first | rfl | simp [Region.wanted, yielded], ?_⟩) hS0 ?_
                    rotate_left
                    · intro w' hSw
                      have y0 := (hSw.cell (p := ⟨w5.heap.size, 1, none⟩) lY).trans v1
                      have y1 := (hSw.cell (p := ⟨wr.heap.size, 1, none⟩) lt1).trans y1
                      have y2 := (hSw.cell (p := ⟨w.heap.size, 4, none⟩) lq5).trans z4
                      try simp only [List.getElem_toArray, List.getElem_cons_zero, List.getElem_cons_succ]
                      go_simp
                      exact rfl
                    try simp only [Act.put, List.setIfInBounds_toArray, List.set_cons_zero, List.set_cons_succ, List.getElem_toArray, List.getElem_cons_zero, List.getElem_cons_succ]
                    refine mix.D_take (i := 13) (v := .int .i64 (K : Int)) rfl (by kernel_rfl) (by kernel_rfl) (fun _ _ _ h => h) (Or.inl ⟨by first | rfl | simp [Region.wanted, yielded], ?_⟩) hS0 ?_
                    · intro w' hSw
                      have y0 := (hSw.cell (p := ⟨w5.heap.size, 1, none⟩) lY).trans v1
                      have y1 := (hSw.cell (p := ⟨wr.heap.size, 1, none⟩) lt1).trans y1
                      have y2 := (hSw.cell (p := ⟨w.heap.size, 4, none⟩) lq5).trans z4
                      try simp only [List.getElem_toArray, List.getElem_cons_zero, List.getElem_cons_succ]
                      go_simp
                      first | exact rfl | (rw [HMX.out]) | (rw [HMY.out]) | (simp only [HMX.out]; done) | (trace_state; sorry)
                    try simp only [Act.put, List.setIfInBounds_toArray, List.set_cons_zero, List.set_cons_succ, List.getElem_toArray, List.getElem_cons_zero, List.getElem_cons_succ]
                    refine mix.D_take (i := 14) (v := ?_) rfl (by kernel_rfl) (by kernel_rfl) (fun _ _ _ h => h) (Or.inl ⟨by first | rfl | simp [Region.wanted, yielded], ?_⟩) hS0 ?_
                    rotate_left
                    · intro w' hSw
                      have y0 := (hSw.cell (p := ⟨w5.heap.size, 1, none⟩) lY).trans v1
                      have y1 := (hSw.cell (p := ⟨wr.heap.size, 1, none⟩) lt1).trans y1
                      have y2 := (hSw.cell (p := ⟨w.heap.size, 4, none⟩) lq5).trans z4
                      try simp only [List.getElem_toArray, List.getElem_cons_zero, List.getElem_cons_succ]
                      go_simp
                      first | exact rfl | (trace_state; sorry)
                    try simp only [Act.put, List.setIfInBounds_toArray, List.set_cons_zero, List.set_cons_succ, List.getElem_toArray, List.getElem_cons_zero, List.getElem_cons_succ]
                    refine mix.D_one (k := 15) rfl (by kernel_rfl) (fun K' hK => ?_)
                    rw [if_pos (by first | rfl | simp [Region.wanted, yielded])]
                    simp only [List.getElem_toArray, List.getElem_cons_zero, List.getElem_cons_succ]
                    go_wp2_with fail
                    refine (likeVs_any lv lv A5 A8 c5 c8 _ ((hV6.below hS0).more hS0.size) ((hW6.below hS0).more hS0.size)).mono ?_
                    rintro e x1 ⟨rfl, hx1⟩
                    rw [decide_eq_true (rfl : lv = lv)]
                    have hd1 : Below WY.heap.size WY x1 := hS0.trans (hx1.mono hS0.size)
                    refine hK.out _ _ (fun _ => hd1) ?_
                    clear hK K'
                    try simp only [Act.put, List.setIfInBounds_toArray, List.set_cons_zero, List.set_cons_succ]
                    refine mix.D_take (i := 16) (v := ?_) rfl (by kernel_rfl) (by kernel_rfl) (fun _ _ _ h => h) (Or.inl ⟨by first | rfl | simp [Region.wanted, yielded], ?_⟩) hd1 ?_
                    rotate_left
                    · intro w' hSw
                      have y0 := (hSw.cell (p := ⟨w5.heap.size, 1, none⟩) lY).trans v1
                      have y1 := (hSw.cell (p := ⟨wr.heap.size, 1, none⟩) lt1).trans y1
                      have y2 := (hSw.cell (p := ⟨w.heap.size, 4, none⟩) lq5).trans z4
                      try simp only [List.getElem_toArray, List.getElem_cons_zero, List.getElem_cons_succ]
                      go_simp
                      exact rfl
                    try simp only [Act.put, List.setIfInBounds_toArray, List.set_cons_zero, List.set_cons_succ, List.getElem_toArray, List.getElem_cons_zero, List.getElem_cons_succ]
                    refine mix.D_take (i := 17) (v := ?_) rfl (by kernel_rfl) (by kernel_rfl) (fun _ _ _ h => h) (Or.inl ⟨by first | rfl | simp [Region.wanted, yielded], ?_⟩) hd1 ?_
                    rotate_left
                    · intro w' hSw
                      have y0 := (hSw.cell (p := ⟨w5.heap.size, 1, none⟩) lY).trans v1
                      have y1 := (hSw.cell (p := ⟨wr.heap.size, 1, none⟩) lt1).trans y1
                      have y2 := (hSw.cell (p := ⟨w.heap.size, 4, none⟩) lq5).trans z4
                      try simp only [List.getElem_toArray, List.getElem_cons_zero, List.getElem_cons_succ]
                      go_simp
                      exact rfl
                    try simp only [Act.put, List.setIfInBounds_toArray, List.set_cons_zero, List.set_cons_succ, List.getElem_toArray, List.getElem_cons_zero, List.getElem_cons_succ]
                    refine mix.D_done (by kernel_rfl) ?_ _
                    go_wp2_with fail
                    exact ⟨⟨k + 1, hltk, by go_num, hbY.trans (hd1.mono hbY.size)⟩, by simp [intOf]; omega⟩
                  · obtain rfl : k = T.length := by omega
                    clear hlk
                    go_wp2_with fail
                    exact ⟨⟨j + 1, hlt, by omega, by go_num, T, AT, cT, rfl, hTl8, by rw [hnx.out]; exact hHx, HBD, by rw [hnx.out]; exact HREL⟩, by simp [intOf]; omega⟩

        · have d4 : decide ((40 : Int) ≤ (j : Int)) = true := decide_eq_true (by omega)
          obtain rfl : j = 40 := by omega
          go_wp2_with fail
          go_meet
          exact hH0.bel
      · obtain rfl : j = bs.length := by omega
        go_wp2_with fail
        go_meet
        exact hH0.bel
  case rest =>
    clear E0 hinv
    go_wp2_with fail
    go_ret
    exact ⟨rfl, b0.trans (hcut.mono b0.size)⟩

theorem law_history (q : Qt) (bs : List BL) (A : Option Addr) (c : Nat) (w : World) (hB : Bs w w.heap.size bs A c) :
    Calls Try.prog 10 #[.agg #[.int .i64 q.a, .int .i64 q.b, .int .i64 q.c, .int .i64 q.d, .int .i64 q.e, .int .i64 q.f, .int .i64 q.h], .slice A bs.length c] w fun e w' => e = .returned (.bool true) ∧ Below w.heap.size w w' := by
  by_cases hk : q.ok
  · exact history_yes q bs A c w hk hB
  · exact history_no q bs A c w hk

end Go.Proofs.Ytjlglfjikfpboaa.books
