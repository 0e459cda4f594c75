/- The document's without, with. -/
import Derived.Test.YtjlglfjikfpboaaBpA


namespace Go.Proofs.Ytjlglfjikfpboaa.books
set_option linter.unusedVariables false
set_option linter.unusedSimpArgs false
open Go.RowKit Go.Shelf Go.Proofs.Ytjlglfjikfpboaa.base Go.Proofs.Ytjlglfjikfpboaa.quotas Go.Proofs.Ytjlglfjikfpboaa.vers Go.Proofs.Ytjlglfjikfpboaa.nodes Go.Proofs.Ytjlglfjikfpboaa.trees Go.Proofs.Ytjlglfjikfpboaa.texts

set_option maxRecDepth 100000 in
set_option maxHeartbeats 4000000 in
theorem without_any (es : List E) (A : Option Addr) (c : Nat) (s : ByteArray) (w : World) (hE : Es w w.heap.size es A c) (hlen : es.length ≤ 1000) :
    Calls Try.prog 108 #[.slice A es.length c, .string s] w fun e w' => ∃ v, e = .returned v ∧ Below w.heap.size w w' ∧ w'.ownsRow 0 79 2 v (delE es s).length (cellsE (delE es s)) ∧ ∀ g, v.ownBlock = some g → w.heap.size ≤ g := by
  have hl : es.length ≤ 140737488355328 := by omega
  have b0 : Below w.heap.size w (w.alloc (.cells #[] 79)) := (Below.refl _ _).alloc (Nat.le_refl _) _
  have r0 : (w.alloc (.cells #[] 79)).ownsRow 0 79 2 (.slice (some ⟨w.heap.size, 0, none⟩) 0 0) 0 (cellsE []) := ⟨rfl, .inr ⟨w.heap.size, 0, #[], rfl, Nat.zero_le _, heap_alloc_new w _, Nat.le_refl _, Nat.zero_le _, rfl, rfl⟩⟩
  go_enter Try.func108, Try.ntmps108
  go_wp2_with fail
  generalize w.alloc (.cells #[] 79) = W at *
  go_loopw [11, 5] (fun i u wr => ∃ j : Nat, j ≤ es.length ∧ i = .int .i64 (j : Int) ∧ Below w.heap.size w wr ∧ wr.ownsRow 0 79 2 u (delE (es.take j) s).length (cellsE (delE (es.take j) s)) ∧ Hid (∀ g, u.ownBlock = some g → w.heap.size ≤ g)) (fun i _ _ => es.length - (intOf i).toNat)
  case atStart => exact ⟨0, Nat.zero_le _, rfl, b0, r0, vers.lay (fun g hg => by cases hg; exact Nat.le_refl _)⟩
  case round =>
    clear r0 b0
    obtain ⟨j, hj, rfl, hb, hr, hu⟩ := hrel
    by_cases hlt : j < es.length
    · obtain ⟨bk, off, rfl, hbk, x0, x1, hV⟩ := (hE.below hb).at_ hlt
      have hdy := vers.lay (delE_yes (s := s) hlt)
      have hdn := vers.lay (delE_no (s := s) hlt)
      have hle := delE_le (es.take j) s
      rw [List.length_take] at hle
      generalize es[j] = x at x0 x1 hV hdy hdn
      obtain ⟨xs, xl, xA, xc⟩ := x
      simp only [] at x0 x1 hV hdy hdn
      have bZ : Below wr.heap.size wr (wr.alloc (.cells #[.string xs, .slice xA xl.length xc] 79)) := (Below.refl _ _).alloc (Nat.le_refl _) _
      have kZ := Blk.new wr 79 #[.string xs, .slice xA xl.length xc]
      have hrZ := row_below hr bZ
      have hbZ := hb.trans (bZ.mono hb.size)
      have hbs := hb.size
      generalize hWZ : wr.alloc (.cells #[.string xs, .slice xA xl.length xc] 79) = WZ at *
      have lZ := kZ.lt
      have y0 := kZ.cell 0
      have y1 := kZ.cell 1
      simp only [List.getElem?_toArray, List.getElem?_cons_zero, List.getElem?_cons_succ] at y0 y1
      by_cases hs : xs = s
      · have g1 : (xs.toList == s.toList) = true := bytes_eq hs
        have g2 : (xs.toList != s.toList) = false := by unfold bne; rw [g1]; rfl
        have HD := vers.lay (hdy.out hs)
        clear hdy hdn hs hr
        go_wp2_with fail
        exact ⟨⟨j + 1, hlt, by go_num, hbZ, by rw [HD.out]; exact hrZ, hu⟩, by simp [intOf]; omega⟩
      · have g1 : (xs.toList == s.toList) = false := bytes_ne hs
        have g2 : (xs.toList != s.toList) = true := by unfold bne; rw [g1]; rfl
        have HD := vers.lay (hdn.out hs)
        clear hdy hdn hs hr
        generalize delE (es.take j) s = fj at *
        go_wp2_with (at_builtin; refine wp_secret (e := ⟨xs, xl, xA, xc⟩) rfl _ _ rfl hrZ rfl rfl rfl (by omega) ?_; intro v9 w9 ho9 hk9 hv9 hz9)
        refine ⟨⟨j + 1, hlt, by go_num, hbZ.trans (hk9.below (fun g hg => hu.out g hg) hbZ.size), by rw [HD.out]; exact ho9, vers.lay (fun g hg => ?_)⟩, by simp [intOf]; omega⟩
        rcases hv9 g hg with h | h
        · exact hu.out g h
        · have := hbZ.size; omega
    · obtain rfl : j = es.length := by omega
      rw [List.take_length] at hr
      go_wp2_with fail
      go_ret
      exact ⟨_, rfl, hb, hr, hu.out⟩

theorem insE_len (x : E) : ∀ F : List E, (insE x F).length = F.length + 1
  | [] => rfl
  | y :: r => by
    rw [insE]
    split
    · rfl
    · rw [List.length_cons, insE_len x r, List.length_cons]
theorem es_rows {w : World} {v : Value} {l : List E} (h : w.ownsRow 0 79 2 v l.length (cellsE l)) (hl : l.length * 40 ≤ 140737488355328) (hx : ∀ x ∈ l, Vs w w.heap.size x.l x.A x.c ∧ x.s.size ≤ maxLen) : ∃ A c, v = .slice A l.length c ∧ Es w w.heap.size l A c := by
  obtain ⟨A, c, e, hc, hn, hr⟩ := row_rdF h
  exact ⟨A, c, e, hc, hl, hn, hr.rd, hx⟩
theorem insE_all {x : E} : ∀ {F : List E}, (∀ y ∈ F, ¬ bn x.s < bn y.s) → insE x F = F ++ [x]
  | [], _ => rfl
  | y :: r, h => by
    rw [insE, if_neg (h y List.mem_cons_self), insE_all fun z hz => h z (List.mem_cons_of_mem _ hz)]; rfl
theorem insE_here {x e : E} (he : bn x.s < bn e.s) : ∀ {F : List E}, (∀ y ∈ F, ¬ bn x.s < bn y.s) → insE x (F ++ [e]) = F ++ [x] ++ [e]
  | [], _ => by rw [List.nil_append, insE, if_pos he]; rfl
  | y :: r, h => by
    rw [List.cons_append, insE, if_neg (h y List.mem_cons_self), insE_here he fun z hz => h z (List.mem_cons_of_mem _ hz)]; rfl
theorem insE_past {x e : E} : ∀ {F : List E}, (∃ y ∈ F, bn x.s < bn y.s) → insE x (F ++ [e]) = insE x F ++ [e]
  | [], h => by obtain ⟨y, hy, _⟩ := h; cases hy
  | y :: r, h => by
    rw [List.cons_append, insE, insE]
    by_cases hl : bn x.s < bn y.s
    · rw [if_pos hl, if_pos hl]; rfl
    · rw [if_neg hl, if_neg hl, insE_past (F := r), List.cons_append]
      obtain ⟨z, hz, hz2⟩ := h
      rcases List.mem_cons.1 hz with rfl | hz
      · exact absurd hz2 hl
      · exact ⟨z, hz, hz2⟩
/-- where the loop stands: x is in, or not yet -/
def WiAt (x : E) (F : List E) (d : Bool) (out : List E) : Prop := if d then (∃ y ∈ F, bn x.s < bn y.s) ∧ out = insE x F else (∀ y ∈ F, ¬ bn x.s < bn y.s) ∧ out = F
theorem wi_take {F : List E} {j : Nat} (hj : j < F.length) : F.take (j + 1) = F.take j ++ [F[j]] := List.take_succ_eq_append_getElem hj
theorem WiAt.put {x e : E} {F out : List E} (h : WiAt x F false out) (he : bn x.s < bn e.s) : WiAt x (F ++ [e]) true (out ++ [x] ++ [e]) := by
  obtain ⟨h1, rfl⟩ : (∀ y ∈ F, ¬ bn x.s < bn y.s) ∧ out = F := by simpa [WiAt] using h
  simp only [WiAt, if_true]
  exact ⟨⟨e, by simp, he⟩, (insE_here he h1).symm⟩
theorem WiAt.skip {x e : E} {F out : List E} (h : WiAt x F false out) (he : ¬ bn x.s < bn e.s) : WiAt x (F ++ [e]) false (out ++ [e]) := by
  obtain ⟨h1, rfl⟩ : (∀ y ∈ F, ¬ bn x.s < bn y.s) ∧ out = F := by simpa [WiAt] using h
  simp only [WiAt, Bool.false_eq_true, if_false]
  refine ⟨fun y hy => ?_, trivial⟩
  rcases List.mem_append.1 hy with hy | hy
  · exact h1 y hy
  · rw [List.mem_singleton.1 hy]; exact he
theorem WiAt.past {x e : E} {F out : List E} (h : WiAt x F true out) : WiAt x (F ++ [e]) true (out ++ [e]) := by
  obtain ⟨⟨y, hy, hl⟩, rfl⟩ : (∃ y ∈ F, bn x.s < bn y.s) ∧ out = insE x F := by simpa [WiAt] using h
  simp only [WiAt, if_true]
  exact ⟨⟨y, List.mem_append.2 (.inl hy), hl⟩, (insE_past ⟨y, hy, hl⟩).symm⟩
theorem WiAt.done {x : E} {F out : List E} (h : WiAt x F true out) : out = insE x F := by
  simp only [WiAt, if_true] at h; exact h.2
theorem WiAt.end_ {x : E} {F out : List E} (h : WiAt x F false out) : out ++ [x] = insE x F := by
  obtain ⟨h1, rfl⟩ : (∀ y ∈ F, ¬ bn x.s < bn y.s) ∧ out = F := by simpa [WiAt] using h
  exact (insE_all h1).symm
theorem WiAt.len {x : E} {F out : List E} {d : Bool} (h : WiAt x F d out) : out.length ≤ F.length + 1 := by
  cases d with
  | true => rw [h.done, insE_len]; exact Nat.le_refl _
  | false =>
    obtain ⟨h1, rfl⟩ : (∀ y ∈ F, ¬ bn x.s < bn y.s) ∧ out = F := by simpa [WiAt] using h
    omega
theorem less4 {a b : ByteArray} (h : bn a < bn b) : Op.bytesLess a.toList b.toList = true ∧ Op.bytesLess b.toList a.toList = false ∧ (a.toList == b.toList) = false ∧ (b.toList == a.toList) = false := by
  have h1 : a ≠ b := fun e => by rw [e] at h; exact bn_irrefl _ h
  rw [Go.Proofs.bytesLess_eq, Go.Proofs.bytesLess_eq]
  rw [show a.toList = bn a from Lib.toList_data a, show b.toList = bn b from Lib.toList_data b]
  exact ⟨decide_eq_true h, decide_eq_false (fun h2 => bn_irrefl _ (List.lt_trans h h2)), beq_eq_false_iff_ne.2 (fun e => h1 (bn_ext e)), beq_eq_false_iff_ne.2 (fun e => h1 (bn_ext e.symm))⟩
theorem gt_yes {a b : ByteArray} (h : bn a < bn b) : Op.bytesLess a.toList b.toList = true := by rw [Go.Proofs.bytesLess_eq, Lib.toList_data, Lib.toList_data]; exact decide_eq_true h
theorem gt_no {a b : ByteArray} (h : ¬ bn a < bn b) : Op.bytesLess a.toList b.toList = false := by rw [Go.Proofs.bytesLess_eq, Lib.toList_data, Lib.toList_data]; exact decide_eq_false h

set_option maxRecDepth 100000 in
set_option maxHeartbeats 4000000 in
theorem with_any (es : List E) (A : Option Addr) (c : Nat) (x : E) (w : World) (hE : Es w w.heap.size es A c) (hlen : es.length ≤ 1000) :
    Calls Try.prog 111 #[.slice A es.length c, .agg #[.string x.s, .slice x.A x.l.length x.c]] w fun e w' => ∃ v, e = .returned v ∧ Below w.heap.size w w' ∧ w'.ownsRow 0 79 2 v (insE x (delE es x.s)).length (cellsE (insE x (delE es x.s))) ∧ ∀ g, v.ownBlock = some g → w.heap.size ≤ g := by
  have hl : es.length ≤ 140737488355328 := by omega
  obtain ⟨F, hF⟩ : ∃ F, delE es x.s = F := ⟨_, rfl⟩
  have hFl := delE_le es x.s
  have hFm : ∀ y ∈ F, y ∈ es := fun y hy => by rw [← hF] at hy; exact (List.mem_filter.1 hy).1
  have hwo := fun wx (hb : Below w.heap.size w wx) => without_any es A c x.s wx (hE.at_world hb) hlen
  rw [hF] at hFl hwo ⊢
  clear hF
  obtain ⟨x, hx⟩ : ∃ y, y = x := ⟨_, rfl⟩
  rw [← hx] at hwo ⊢
  clear hx
  obtain ⟨ks, kl, kA, kc⟩ := x
  simp only [] at hwo ⊢
  have kX := (Blk.new w 79 #[.string ks, .slice kA kl.length kc])
  have bX : Below w.heap.size w (w.alloc (.cells #[.string ks, .slice kA kl.length kc] 79)) := (Below.refl _ _).alloc (Nat.le_refl _) _
  have y0 := kX.cell 0
  simp only [List.getElem?_toArray, List.getElem?_cons_zero, List.getElem?_cons_succ] at y0
  go_enter Try.func111, Try.ntmps111
  go_upto_region 1 with (fail)
  generalize w.alloc (.cells #[.string ks, .slice kA kl.length kc] 79) = W at *
  have lX := kX.lt
  have bE := bX.alloc bX.size (.cells #[] 79)
  have r0 : (W.alloc (.cells #[] 79)).ownsRow 0 79 2 (.slice (some ⟨W.heap.size, 0, none⟩) 0 0) 0 (cellsE []) := ⟨rfl, .inr ⟨W.heap.size, 0, #[], rfl, Nat.zero_le _, heap_alloc_new W _, Nat.le_refl _, Nat.zero_le _, rfl, rfl⟩⟩
  go_wp2_with fail
  refine (hwo _ bE).mono ?_
  rintro e w1 ⟨vF, rfl, hb1, hrF, hoF⟩
  have b1 := bE.trans (hb1.mono bE.size)
  have r1 := row_below r0 hb1
  have k1 := (kX.alloc (.cells #[] 79)).below hb1 (kX.alloc _).lt
  have hs1 := hb1.size
  simp only [World.size_alloc] at hs1
  obtain ⟨AF, cF, rfl, hEF⟩ := es_rows hrF (by omega) (fun y hy => ⟨(((hE.2.2.2.2 y (hFm y hy)).1.below b1).more b1.size), (hE.2.2.2.2 y (hFm y hy)).2⟩)
  have hAF : ∀ b off, AF = some ⟨b, off, none⟩ → b ≠ W.heap.size := fun b off e => by
    have := hoF b (by rw [e]; rfl)
    simp only [World.size_alloc] at this
    omega
  have hWs : w.heap.size < W.heap.size := lX
  clear hwo hoF r0 y0
  have HR1 := vers.lay r1
  have hAF := vers.lay hAF
  have hFl2 : F.length ≤ 1000 := by omega
  clear r1
  go_wp2_with fail
  go_loopw [15, 5, 6] (fun i u d wr => ∃ (j : Nat) (dd : Bool) (out : List E), j ≤ F.length ∧ i = .int .i64 (j : Int) ∧ d = .bool dd ∧ Below w.heap.size w wr ∧ Keep (fun g => g = W.heap.size) w1 wr ∧ wr.ownsRow 0 79 2 u out.length (cellsE out) ∧ Hid (WiAt ⟨ks, kl, kA, kc⟩ (F.take j) dd out) ∧ Hid (∀ g, u.ownBlock = some g → g = W.heap.size ∨ w1.heap.size ≤ g)) (fun i _ _ _ => F.length - (intOf i).toNat)
  case atStart => exact ⟨0, false, [], Nat.zero_le _, rfl, rfl, b1, Keep.refl _ _, HR1.out, vers.lay (by simp [WiAt]), vers.lay (fun g hg => by cases hg; exact .inl rfl)⟩
  case round =>
    clear HR1
    obtain ⟨j, dd, out, hj, rfl, rfl, hb, hK, hr, HW, HU⟩ := hrel
    have kx := hK.blk k1 (by omega)
    have yx0 := kx.cell 0
    have yx1 := kx.cell 1
    simp only [List.getElem?_toArray, List.getElem?_cons_zero, List.getElem?_cons_succ] at yx0 yx1
    have hol := HW.out.len
    rw [List.length_take] at hol
    have hbs := hb.size
    have hks := hK.size
    have lx := kx.lt
    by_cases hlt : j < F.length
    · obtain ⟨bk, off, hAe, hbk, x0, x1, _⟩ := hEF.at_ hlt
      have hbn := hAF.out bk off hAe
      subst hAe
      replace x0 := (hK.cell (p := ⟨bk, off + j * 2, none⟩) hbk hbn).trans x0
      replace x1 := (hK.cell (p := ⟨bk, off + j * 2 + 1, none⟩) hbk hbn).trans x1
      have hbk' : bk < wr.heap.size := by omega
      have HT := vers.lay (wi_take hlt)
      generalize F[j] = x at x0 x1 HT
      obtain ⟨xs, xl, xA, xc⟩ := x
      simp only [] at x0 x1
      have bZ : Below wr.heap.size wr (wr.alloc (.cells #[.string xs, .slice xA xl.length xc] 79)) := (Below.refl _ _).alloc (Nat.le_refl _) _
      have kZ := Blk.new wr 79 #[.string xs, .slice xA xl.length xc]
      have hrZ := row_below hr bZ
      have hbZ := hb.trans (bZ.mono hb.size)
      have hKZ := hK.seq bZ
      have kxZ := kx.below bZ kx.lt
      have hul := hr.lt
      have HUL := vers.lay hul
      generalize hWZ : wr.alloc (.cells #[.string xs, .slice xA xl.length xc] 79) = WZ at *
      have lZ := kZ.lt
      have y0 := kZ.cell 0
      have y1 := kZ.cell 1
      have yz0 := kxZ.cell 0
      have yz1 := kxZ.cell 1
      simp only [List.getElem?_toArray, List.getElem?_cons_zero, List.getElem?_cons_succ] at y0 y1 yz0 yz1
      have lxZ := kxZ.lt
      clear hr yx0 yx1 hul
      have HK9 := vers.lay (fun (u : Value) (w9 : World) (hU : ∀ g, u.ownBlock = some g → g = W.heap.size ∨ w1.heap.size ≤ g) (wa : World) (ha : Keep (fun g => g = W.heap.size) w1 wa) (hk : Keep (fun g => u.ownBlock = some g) wa w9) => ha.trans hk (fun g hg hlt => (hU g hg).elim id (fun h => by omega)))
      cases dd with
      | true =>
        have HN := vers.lay (show WiAt ⟨ks, kl, kA, kc⟩ (F.take (j + 1)) true (out ++ [⟨xs, xl, xA, xc⟩]) by rw [HT.out]; exact HW.out.past)
        clear HT HW
        go_wp2_with (at_builtin; refine wp_secret (e := ⟨xs, xl, xA, xc⟩) rfl _ _ rfl hrZ rfl rfl rfl (by omega) ?_; intro v9 w9 ho9 hk9 hv9 hz9)
        refine ⟨⟨j + 1, true, out ++ [⟨xs, xl, xA, xc⟩], hlt, by go_num, rfl, hbZ.trans (hk9.below (fun g hg => by rcases HU.out g hg with h | h <;> omega) hbZ.size), HK9.out _ _ HU.out _ hKZ hk9, ho9, HN, vers.lay (fun g hg => ?_)⟩, by simp [intOf]; omega⟩
        rcases hv9 g hg with h | h
        · exact HU.out g h
        · exact .inr (by omega)
      | false =>
        by_cases hl : bn ks < bn xs
        · obtain ⟨g1, g2, g3, g4⟩ := less4 hl
          have HN := vers.lay (show WiAt ⟨ks, kl, kA, kc⟩ (F.take (j + 1)) true (out ++ [⟨ks, kl, kA, kc⟩] ++ [⟨xs, xl, xA, xc⟩]) by rw [HT.out]; exact HW.out.put hl)
          obtain ⟨out8, ho8e⟩ : ∃ o, out ++ [(⟨ks, kl, kA, kc⟩ : E)] = o := ⟨_, rfl⟩
          have hl8 : out8.length ≤ 1000000 := by rw [← ho8e, List.length_append, List.length_singleton]; have := hlt; omega
          rw [ho8e] at HN
          have HO8 := vers.lay ho8e
          clear HT HW hl ho8e
          go_wp2_with (first | (at_builtin; refine wp_secret (e := ⟨xs, xl, xA, xc⟩) rfl _ _ rfl ho8 rfl rfl rfl (by omega) ?_; intro v9 w9 ho9 hk9 hv9 hz9) | (at_builtin; refine wp_secret (e := ⟨ks, kl, kA, kc⟩) rfl _ _ rfl hrZ rfl rfl rfl (by omega) ?_; intro v8 w8 ho8 hk8 hv8 hz8; rw [HO8.out] at ho8; have kZ8 := hk8.blk kZ (fun hs => by have := (HUL.out _ hs).2; omega); have u0 := kZ8.cell 0; have u1 := kZ8.cell 1; simp only [List.getElem?_toArray, List.getElem?_cons_zero, List.getElem?_cons_succ] at u0 u1; have l8 := kZ8.lt; have hK8 := HK9.out _ _ HU.out _ hKZ hk8; have b8 : Below w.heap.size w w8 := hbZ.trans (hk8.below (fun g hg => by rcases HU.out g hg with h | h <;> omega) hbZ.size); have HU8 : ∀ g, v8.ownBlock = some g → g = W.heap.size ∨ w1.heap.size ≤ g := fun g hg => by rcases hv8 g hg with h | h; exact HU.out g h; exact .inr (by omega)))
          refine ⟨⟨j + 1, true, out8 ++ [⟨xs, xl, xA, xc⟩], hlt, by go_num, rfl, b8.trans (hk9.below (fun g hg => by rcases HU8 g hg with h | h <;> omega) b8.size), HK9.out _ _ HU8 _ hK8 hk9, ho9, HN, vers.lay (fun g hg => ?_)⟩, by simp [intOf]; omega⟩
          rcases hv9 g hg with h | h
          · exact HU8 g h
          · exact .inr (by have := hk8.size; omega)
        · have HN := vers.lay (show WiAt ⟨ks, kl, kA, kc⟩ (F.take (j + 1)) false (out ++ [⟨xs, xl, xA, xc⟩]) by rw [HT.out]; exact HW.out.skip hl)
          clear HT HW
          by_cases he : xs = ks
          · have g1 : Op.bytesLess xs.toList ks.toList = false := gt_no (by rw [he]; exact bn_irrefl _)
            have g2 := bytes_eq he
            clear hl he
            go_wp2_with (at_builtin; refine wp_secret (e := ⟨xs, xl, xA, xc⟩) rfl _ _ rfl hrZ rfl rfl rfl (by omega) ?_; intro v9 w9 ho9 hk9 hv9 hz9)
            refine ⟨⟨j + 1, false, out ++ [⟨xs, xl, xA, xc⟩], hlt, by go_num, rfl, hbZ.trans (hk9.below (fun g hg => by rcases HU.out g hg with h | h <;> omega) hbZ.size), HK9.out _ _ HU.out _ hKZ hk9, ho9, HN, vers.lay (fun g hg => ?_)⟩, by simp [intOf]; omega⟩
            rcases hv9 g hg with h | h
            · exact HU.out g h
            · exact .inr (by omega)
          · have g1 : Op.bytesLess xs.toList ks.toList = true := gt_yes (bn_total hl (fun e => he e.symm))
            clear hl he
            go_wp2_with (at_builtin; refine wp_secret (e := ⟨xs, xl, xA, xc⟩) rfl _ _ rfl hrZ rfl rfl rfl (by omega) ?_; intro v9 w9 ho9 hk9 hv9 hz9)
            refine ⟨⟨j + 1, false, out ++ [⟨xs, xl, xA, xc⟩], hlt, by go_num, rfl, hbZ.trans (hk9.below (fun g hg => by rcases HU.out g hg with h | h <;> omega) hbZ.size), HK9.out _ _ HU.out _ hKZ hk9, ho9, HN, vers.lay (fun g hg => ?_)⟩, by simp [intOf]; omega⟩
            rcases hv9 g hg with h | h
            · exact HU.out g h
            · exact .inr (by omega)
    · obtain rfl : j = F.length := by omega
      rw [List.take_length] at HW
      cases dd with
      | true =>
        have HD := vers.lay HW.out.done
        clear HW
        go_wp2_with fail
        go_ret
        exact ⟨_, rfl, hb, by rw [← HD.out]; exact hr, fun g hg => by rcases HU.out g hg with h | h <;> omega⟩
      | false =>
        have HD := vers.lay HW.out.end_
        clear HW
        go_wp2_with (at_builtin; refine wp_secret (e := ⟨ks, kl, kA, kc⟩) rfl _ _ rfl hr rfl rfl rfl (by omega) ?_; intro v9 w9 ho9 hk9 hv9 hz9)
        go_ret
        refine ⟨_, rfl, hb.trans (hk9.below (fun g hg => by rcases HU.out g hg with h | h <;> omega) hb.size), by rw [← HD.out]; exact ho9, fun g hg => ?_⟩
        rcases hv9 g hg with h | h
        · rcases HU.out g h with h | h <;> omega
        · omega

end Go.Proofs.Ytjlglfjikfpboaa.books
