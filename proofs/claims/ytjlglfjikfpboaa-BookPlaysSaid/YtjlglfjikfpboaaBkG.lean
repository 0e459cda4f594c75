/- A book in memory; Judge and Play. -/
import Derived.Test.YtjlglfjikfpboaaBkF
import Derived.Test.YtjlglfjikfpboaaBkT


namespace Go.Proofs.Ytjlglfjikfpboaa.books
set_option linter.unusedVariables false
set_option linter.unusedSimpArgs false
open Go.RowKit Go.Shelf Go.Proofs.Ytjlglfjikfpboaa.base Go.Proofs.Ytjlglfjikfpboaa.quotas Go.Proofs.Ytjlglfjikfpboaa.vers Go.Proofs.Ytjlglfjikfpboaa.nodes Go.Proofs.Ytjlglfjikfpboaa.trees Go.Proofs.Ytjlglfjikfpboaa.texts

/-! ### the set of what was put -/
theorem DT_size (P : List (List UInt8)) : Maps.size (DT P) = P.length := by unfold DT; rw [Maps.size_eq, List.length_map]
abbrev OwnT (w : World) (mp : Nat) (P : List (List UInt8)) : Prop := w.ownsMap Try.prog 9 (unitElem (H := Value)) mp P.length (DT P)
theorem ownT_keep {S : Nat → Prop} {w w' : World} {mp : Nat} {P : List (List UInt8)} (h : OwnT w mp P) (hk : Keep S w w') (hn : ¬ S mp) : OwnT w' mp P := by
  have hlt := h.lt
  obtain ⟨xs, clock, hb, F, hs, hD⟩ := h
  exact ⟨xs, clock, (hk.block mp hlt hn).trans hb, F, hs, hD⟩
theorem ownT_below {w w' : World} {mp : Nat} {P : List (List UInt8)} (h : OwnT w mp P) (hb : Below w.heap.size w w') : OwnT w' mp P := ownT_keep h (Keep.of_below (S := fun _ => False) hb) id
theorem op_putT {o : Oper} {a : Act} {K : Act → World → Prop} {Q : Exit → Act → World → Prop} (w : World) (m x v : Operand) (hop : o.op = Op.mapUpdate 107 m x v) {mp : Nat} {P : List (List UInt8)} (hm : a.eval m = .map (some mp)) (hown : OwnT w mp P) (hP : P.Pairwise (· < ·)) (hn : P.length < maxLen) {s : ByteArray} (hx : a.eval x = .string s) (hs : s.size ≤ maxLen) (hv : a.eval v = .agg #[])
    (hK : ∀ w', OwnT w' mp (insD (bn s) P false) → w.grownBy w' (some mp) → K (a.put o.dst undef) w') : o.wp Try.prog a w K Q := by
  obtain ⟨w', hrun, r1, r2⟩ := hown.update kK Try.underlying107 hn (kS hs) (unitElem_mk (H := Value))
  unfold Oper.wp
  simp [execOp, hop, hm, hx, hv, hrun, Result.andThen]
  refine hK w' ?_ r2
  rw [DT_put hP] at r1
  have := tight r1
  rwa [DT_size] at this
theorem keep_set (w : World) (a : Addr) (u : Value) : Keep (fun g => g = a.block) w (w.setCell a u) := ⟨rfl, rfl, rfl, by simp [World.setCell], fun k _ hn => Below.heap_setCell _ _ _ _ hn⟩

theorem SAt.reg {w : World} {ms : Nat} {Y : Nat → Prop} {L : List PB} (h : SAt w ms Y L) (g : Nat) (hg : Y g) : g < w.heap.size := let ⟨_, _, _, _, h4⟩ := h; (h4 g hg).1

/-! ### a book -/
def BAt (w : World) (q : Qt) (bp mp : Nat) (Z : Nat → Prop) (b : Bk) : Prop :=
  ∃ (ms : Nat) (Y : Nat → Prop), Blk w bp 132 (bcells q ms mp) ∧ SAt w ms Y b.L ∧ OwnT w mp b.P ∧ b.P.Pairwise (· < ·) ∧ Z ms ∧ (∀ g, Y g → Z g) ∧ (∀ g, Z g → g ≠ bp ∧ g ≠ mp ∧ g < w.heap.size) ∧ bp ≠ mp
theorem BAt.lt {w : World} {q : Qt} {bp mp : Nat} {Z : Nat → Prop} {b : Bk} (h : BAt w q bp mp Z b) : bp < w.heap.size ∧ mp < w.heap.size := by
  obtain ⟨ms, Y, h1, h2, h3, _⟩ := h
  exact ⟨h1.lt, h3.lt⟩
theorem BAt.keep {S : Nat → Prop} {w w' : World} {q : Qt} {bp mp : Nat} {Z : Nat → Prop} {b : Bk} (h : BAt w q bp mp Z b) (hk : Keep S w w') (h1 : ¬ S bp) (h2 : ¬ S mp) (h3 : ∀ g, Z g → ¬ S g) : BAt w' q bp mp Z b := by
  obtain ⟨ms, Y, e1, e2, e3, e4, e5, e6, e7, e8⟩ := h
  exact ⟨ms, Y, hk.blk e1 h1, e2.keep hk (h3 ms e5) (fun g hg => h3 g (e6 g hg)), ownT_keep e3 hk h2, e4, e5, e6, fun g hg => ⟨(e7 g hg).1, (e7 g hg).2.1, Nat.lt_of_lt_of_le (e7 g hg).2.2 hk.size⟩, e8⟩
theorem BAt.below {w w' : World} {q : Qt} {bp mp : Nat} {Z : Nat → Prop} {b : Bk} (h : BAt w q bp mp Z b) (hb : Below w.heap.size w w') : BAt w' q bp mp Z b := h.keep (S := fun _ => False) (Keep.of_below hb) id id (fun _ _ => id)
theorem BAt.far {B : Nat} {w w' : World} {q : Qt} {bp mp : Nat} {Z : Nat → Prop} {b : Bk} (h : BAt w q bp mp Z b) (hb : Below B w w') (h1 : bp < B) (h2 : mp < B) (h3 : ∀ g, Z g → g < B) : BAt w' q bp mp Z b :=
  h.keep (S := fun g => B ≤ g) ⟨hb.os, hb.tape, hb.output, hb.size, fun k _ hn => hb.block k (by omega)⟩ (by omega) (by omega) (fun g hg => by have := h3 g hg; omega)

set_option maxRecDepth 100000 in
set_option maxHeartbeats 2000000 in
theorem judge_ok (q : Qt) (bp mp : Nat) (Z : Nat → Prop) (b : Bk) (ops : List O) (A : Option Addr) (c : Nat) (w : World) (hB : BAt w q bp mp Z b) (hO : Os w w.heap.size ops A c) (hlen : b.L.length + ops.length ≤ 1000000 ∨ q.f < (ops.length : Int)) :
    Calls Try.prog 36 #[.pointer (some ⟨bp, 0, none⟩), .slice A ops.length c] w fun e w' => e = .returned (.tuple #[.int .i64 (behindP q b.L ops).2.1, .int .i64 (behindP q b.L ops).2.2]) ∧ Below w.heap.size w w' := by
  obtain ⟨ms, Y, e1, e2, e3, e4, e5, e6, e7, e8⟩ := hB
  have hb := behind_ok q bp ms mp Y b.L ops A c w e1 e2 hO hlen
  generalize behindP q b.L ops = r at hb ⊢
  go_enter Try.func36, Try.ntmps36
  go_wp2_with fail
  refine hb.mono ?_
  rintro e w1 ⟨hb1, mv, rfl, _⟩
  go_wp2_with fail
  refine bodyPost_ret (v := .tuple #[.int .i64 r.2.1, .int .i64 r.2.2]) (by simp [results, Try.results36, go_sem]) rfl ⟨rfl, hb1⟩

/-- what Play leaves -/
def PlPost (w : World) (q : Qt) (bp mp : Nat) (Z : Nat → Prop) (r : Bk × Int × Int) (e : Ending) (w' : World) : Prop :=
  e = .returned (.tuple #[.int .i64 r.2.1, .int .i64 r.2.2]) ∧ Keep (fun g => g = bp ∨ g = mp) w w' ∧ ∃ Z' : Nat → Prop, BAt w' q bp mp Z' r.1 ∧ ∀ g, Z' g → Z g ∨ w.heap.size ≤ g
/-- at the loop's head -/
def LHead9 (w2 : World) (mp : Nat) (P : List (List UInt8)) (ops : List O) (i : Value) (wr : World) : Prop :=
  ∃ (j : Nat) (M : List (List UInt8)), j ≤ ops.length ∧ i = .int .i64 (j : Int) ∧ Keep (fun g => g = mp) w2 wr ∧ OwnT wr mp M ∧ M.Pairwise (· < ·) ∧ M.length ≤ P.length + j ∧ Hid (wereP P ops = wereP M (ops.drop j))
theorem behind_big {q : Qt} {L : List PB} {ops : List O} (h : q.f < (ops.length : Int)) : behindP q L ops = (L, 7, -1) := by unfold behindP; rw [if_pos (.inr h)]
theorem wereP_cons {M : List (List UInt8)} {ops : List O} {j : Nat} (hj : j < ops.length) : wereP M (ops.drop j) = wereP (if ops[j].k ≠ 3 then insD (bn ops[j].v) M false else M) (ops.drop (j + 1)) := by
  rw [List.drop_eq_getElem_cons hj]; rfl
theorem os_ne {w : World} {B bp mp : Nat} {l : List O} {A : Option Addr} {c : Nat} (h : Os w B l A c) (h1 : B ≤ bp) (h2 : B ≤ mp) : l ≠ [] → ∀ g off, A = some ⟨g, off, none⟩ → g ≠ bp ∧ g ≠ mp := fun hn g off hA => by
  obtain ⟨b, off', e, hb, _⟩ := h.at_ (j := 0) (List.length_pos_iff.2 hn)
  rw [hA] at e
  injection e with e
  injection e with e _
  omega
theorem os_keep {S : Nat → Prop} {w w' : World} {B : Nat} {l : List O} {A : Option Addr} {c : Nat} (h : Os w B l A c) (hk : Keep S w w') (hB : B ≤ w.heap.size) (hne : l ≠ [] → ∀ b off, A = some ⟨b, off, none⟩ → ¬ S b) : Os w' B l A c :=
  ⟨h.1, h.2.1, h.2.2.1, fun j u hj => by
    obtain ⟨b, off, e, hb, hc⟩ := h.2.2.2.1 j u hj
    exact ⟨b, off, e, hb, (hk.cell (p := ⟨b, off + j, none⟩) (Nat.lt_of_lt_of_le hb hB) (hne (fun e => by subst e; simp [cellsO] at hj) b off e)).trans hc⟩, h.2.2.2.2⟩

set_option maxRecDepth 100000 in
set_option maxHeartbeats 2000000 in
theorem play_any (q : Qt) (bp mp : Nat) (Z : Nat → Prop) (b : Bk) (ops : List O) (A : Option Addr) (c : Nat) (w : World) (hB : BAt w q bp mp Z b) (hO : Os w w.heap.size ops A c) (hAb : ops ≠ [] → ∀ g off, A = some ⟨g, off, none⟩ → g ≠ bp ∧ g ≠ mp) (hlen : b.L.length + ops.length ≤ 1000000 ∨ q.f < (ops.length : Int)) (hlenP : b.P.length + ops.length ≤ 1000000 ∨ q.f < (ops.length : Int)) :
    Calls Try.prog 45 #[.pointer (some ⟨bp, 0, none⟩), .slice A ops.length c] w (PlPost w q bp mp Z (playP q b ops)) := by
  have hB0 := hB
  obtain ⟨L, P⟩ := b
  obtain ⟨ms, Y, e1, e2, e3, e4, e5, e6, e7, e8⟩ := hB
  have hb := behind_ok q bp ms mp Y L ops A c w e1 e2 hO hlen
  simp only [] at e2 e3 e4 hlen hlenP
  have hbig : q.f < (ops.length : Int) → (behindP q L ops).2.1 ≠ 0 := fun h => by rw [behind_big h]; simp
  unfold playP
  simp only []
  generalize behindP q L ops = r at hb hbig ⊢
  obtain ⟨L', er, at'⟩ := r
  delta BPost at hb
  simp only [] at hb hbig ⊢
  generalize hR : (if er ≠ 0 then ((⟨L, P⟩ : Bk), er, at') else (⟨L', wereP P ops⟩, 0, 0)) = R
  have HR := vers.lay hR
  clear hR
  have hlo : ops.length ≤ 140737488355328 := by have := hO.2.1; omega
  go_enter Try.func45, Try.ntmps45
  go_wp2_with fail
  refine hb.mono ?_
  rintro e w1 ⟨hb1, mv, rfl, hms⟩
  by_cases h0 : er = 0
  · have d0 := ne_no h0
    replace hlenP := hlenP.resolve_right (fun h => hbig h h0)
    clear hbig
    obtain ⟨ms', Y', rfl, hge, hS', hY'⟩ := hms h0
    have b1 := e1.below hb1 e1.lt
    have x7 := b1.cell 7
    have g7 := b1.frozen 7
    simp only [bcells, List.getElem?_toArray, List.getElem?_cons_zero, List.getElem?_cons_succ] at x7
    have lb := e1.lt
    have lm := e3.lt
    have hz1 := hb1.size
    subst h0
    clear hb hms d0
    go_wp2_with fail
    have kS' : Keep (fun g => g = bp) w1 (w1.setCell ⟨bp, 7, none⟩ (.map (some ms'))) := keep_set w1 ⟨bp, 7, none⟩ _
    have b2 := b1.put 7 (.map (some ms'))
    simp only [bcells, List.setIfInBounds_toArray, List.set_cons_zero, List.set_cons_succ] at b2
    generalize w1.setCell ⟨bp, 7, none⟩ (.map (some ms')) = w2 at *
    have hS2 := hS'.keep kS' (by have := hS'.lt; omega) (fun g hg h => (hY' g hg).elim (fun h1 => (e7 g (e6 g h1)).1 h) (fun h1 => by subst h; omega))
    have hT2 := ownT_keep (ownT_below e3 hb1) kS' (fun h => e8 h.symm)
    have hK2 : Keep (fun g => g = bp) w w2 := (Keep.of_below (S := fun g => g = bp) hb1).trans kS' (fun g hg _ => hg)
    have hO2 := os_keep hO hK2 (Nat.le_refl _) (fun hn g off hA => (hAb hn g off hA).1)
    have hz2 := kS'.size
    have lb2 : bp < w2.heap.size := by omega
    have lm2 : mp < w2.heap.size := by omega
    have x8 := b2.cell 8
    simp only [List.getElem?_toArray, List.getElem?_cons_zero, List.getElem?_cons_succ] at x8
    go_loopw [28] (fun i wr => LHead9 w2 mp P ops i wr) (fun i _ => ops.length - (intOf i).toNat)
    case atStart => exact ⟨0, P, Nat.zero_le _, rfl, Keep.refl _ _, hT2, e4, Nat.le_refl _, vers.lay rfl⟩
    case round =>
      obtain ⟨j, M, hj, rfl, hK, hM, hMp, hMl, hH⟩ := hrel
      by_cases hlt : j < ops.length
      · obtain ⟨bk, off, rfl, hbk, e0, e1', e2', e3'⟩ := (os_keep hO2 hK (by omega) (fun hn g off hA => (hAb hn g off hA).2)).at_ hlt
        have hfit := hO.2.2.2.2 _ (List.getElem_mem hlt)
        have hH2 := vers.lay (hH.out.trans (wereP_cons hlt))
        clear hH
        generalize ops[j] = o at e0 e1' e2' e3' hH2 hfit
        obtain ⟨k, s, v, t⟩ := o
        simp only [] at e0 e1' e2' e3' hH2
        have hz := hK.size
        have c8 := (hK.cell (p := ⟨bp, 8, none⟩) lb2 (fun h => e8 h)).trans x8
        have bA : Below wr.heap.size wr (wr.alloc (.cells #[.int .i64 k, .string s, .string v, .string t] 92)) := (Below.refl _ _).alloc (Nat.le_refl _) _
        have kO := Blk.new wr 92 #[.int .i64 k, .string s, .string v, .string t]
        have hMA := ownT_below hM bA
        by_cases h3 : k = 3
        · have d3 := ne_no h3
          have hH3 := vers.lay (hH2.out.trans (by rw [if_neg (fun h => h h3)]))
          clear hH2 h3
          go_wp2_with fail
          exact ⟨⟨j + 1, M, hlt, by go_num, hK.seq bA, hMA, hMp, by omega, hH3⟩, by simp [intOf]; omega⟩
        · have d3 := ne_yes h3
          have hH3 := vers.lay (hH2.out.trans (by rw [if_pos h3]))
          clear hH2 h3
          go_wp2_with fail
          have x8 := (bA.cell (p := ⟨bp, 8, none⟩) (by show bp < _; omega)).trans c8
          have hzA := bA.size
          generalize wr.alloc (.cells #[.int .i64 k, .string s, .string v, .string t] 92) = W at *
          have lB : bp < W.heap.size := by omega
          have lO := kO.lt
          have o2 := kO.cell 2
          simp only [List.getElem?_toArray, List.getElem?_cons_zero, List.getElem?_cons_succ] at o2
          have hS0 : Below W.heap.size W W.drew := (Below.refl _ _).drew
          refine mix.region_D (fun w' => Below W.heap.size W w') (fun j => j == 7) (by kernel_rfl) ?_
          refine mix.D_takeT (i := 0) (v := ?_) rfl (by kernel_rfl) (by kernel_rfl) (fun _ _ _ h => h) (Or.inl ⟨by rfl, ?_⟩) hS0 ?_
          rotate_left
          · intro w' hSw
            try simp only [List.getElem_toArray, List.getElem_cons_zero, List.getElem_cons_succ]
            go_simp
            exact rfl
          try simp only [Act.put, List.setIfInBounds_toArray, List.set_cons_zero, List.set_cons_succ, List.getElem_toArray, List.getElem_cons_zero, List.getElem_cons_succ]
          refine mix.D_takeT (i := 1) (v := ?_) rfl (by kernel_rfl) (by kernel_rfl) (fun _ _ _ h => h) (Or.inl ⟨by rfl, ?_⟩) hS0 ?_
          rotate_left
          · intro w' hSw
            try simp only [List.getElem_toArray, List.getElem_cons_zero, List.getElem_cons_succ]
            go_simp
            exact rfl
          try simp only [Act.put, List.setIfInBounds_toArray, List.set_cons_zero, List.set_cons_succ, List.getElem_toArray, List.getElem_cons_zero, List.getElem_cons_succ]
          refine mix.D_takeT (i := 2) (v := ?_) rfl (by kernel_rfl) (by kernel_rfl) (fun _ _ _ h => h) (Or.inl ⟨by rfl, ?_⟩) hS0 ?_
          rotate_left
          · intro w' hSw
            try simp only [List.getElem_toArray, List.getElem_cons_zero, List.getElem_cons_succ]
            go_simp
            exact rfl
          try simp only [Act.put, List.setIfInBounds_toArray, List.set_cons_zero, List.set_cons_succ, List.getElem_toArray, List.getElem_cons_zero, List.getElem_cons_succ]
          refine mix.D_takeT (i := 3) (v := ?_) rfl (by kernel_rfl) (by kernel_rfl) (fun _ _ _ h => h) (Or.inl ⟨by rfl, ?_⟩) hS0 ?_
          rotate_left
          · intro w' hSw
            have y0 := (hSw.cell (p := ⟨bp, 8, none⟩) lB).trans x8
            try simp only [List.getElem_toArray, List.getElem_cons_zero, List.getElem_cons_succ]
            go_simp
            exact rfl
          try simp only [Act.put, List.setIfInBounds_toArray, List.set_cons_zero, List.set_cons_succ, List.getElem_toArray, List.getElem_cons_zero, List.getElem_cons_succ]
          refine mix.D_takeT (i := 4) (v := ?_) rfl (by kernel_rfl) (by kernel_rfl) (fun _ _ _ h => h) (Or.inl ⟨by rfl, ?_⟩) hS0 ?_
          rotate_left
          · intro w' hSw
            try simp only [List.getElem_toArray, List.getElem_cons_zero, List.getElem_cons_succ]
            go_simp
            exact rfl
          try simp only [Act.put, List.setIfInBounds_toArray, List.set_cons_zero, List.set_cons_succ, List.getElem_toArray, List.getElem_cons_zero, List.getElem_cons_succ]
          refine mix.D_takeT (i := 5) (v := ?_) rfl (by kernel_rfl) (by kernel_rfl) (fun _ _ _ h => h) (Or.inl ⟨by rfl, ?_⟩) hS0 ?_
          rotate_left
          · intro w' hSw
            have y1 := (hSw.cell (p := ⟨wr.heap.size, 2, none⟩) lO).trans o2
            try simp only [List.getElem_toArray, List.getElem_cons_zero, List.getElem_cons_succ]
            go_simp
            exact rfl
          try simp only [Act.put, List.setIfInBounds_toArray, List.set_cons_zero, List.set_cons_succ, List.getElem_toArray, List.getElem_cons_zero, List.getElem_cons_succ]
          refine mix.D_takeT (i := 6) (v := ?_) rfl (by kernel_rfl) (by kernel_rfl) (fun _ _ _ h => h) (Or.inl ⟨by rfl, ?_⟩) hS0 ?_
          rotate_left
          · intro w' hSw
            try simp only [List.getElem_toArray, List.getElem_cons_zero, List.getElem_cons_succ]
            go_simp
            exact rfl
          try simp only [Act.put, List.setIfInBounds_toArray, List.set_cons_zero, List.set_cons_succ, List.getElem_toArray, List.getElem_cons_zero, List.getElem_cons_succ]
          refine mix.D_op (k := 7) rfl rfl (by kernel_rfl) (fun K' hK => ?_)
          simp only [List.getElem_toArray, List.getElem_cons_zero, List.getElem_cons_succ]
          refine op_putT _ _ _ _ rfl rfl (hMA : OwnT W.drew mp M) hMp (by unfold maxLen; omega) rfl hfit.2.2.1 rfl ?_
          intro w3 hM3 hg3
          refine hK.out _ _ (fun h => by simp at h) ?_
          clear hK K'
          refine mix.D_done (by kernel_rfl) ?_ _
          have hK3 : Keep (fun g => g = mp) wr w3 := (Keep.of_below (S := fun g => g = mp) bA.drew).trans (keep_grown hg3) (fun g hg _ => hg)
          have hl3 := insD_len (bn v) M false
          go_wp2_with fail
          exact ⟨⟨j + 1, insD (bn v) M false, hlt, by go_num, hK.trans hK3 (fun g hg _ => hg), hM3, (insD_props _ _ hMp).1, by omega, hH3⟩, by simp [intOf]; omega⟩
      · obtain rfl : j = ops.length := by omega
        have hH3 := vers.lay (hH.out.trans (by rw [List.drop_length]; rfl : wereP M (ops.drop ops.length) = M))
        clear hH
        go_wp2_with fail
        refine bodyPost_ret (v := .tuple #[.int .i64 0, .int .i64 0]) (by simp [results, Try.results45, go_sem]) rfl ?_
        obtain rfl := HR.out
        rw [if_neg (by simp), hH3.out]
        have hZ : ∀ g, (Z g ∨ w.heap.size ≤ g) ∧ g < wr.heap.size → g ≠ bp ∧ g ≠ mp ∧ g < wr.heap.size := fun g hg => by
          rcases hg.1 with h | h
          · exact ⟨(e7 g h).1, (e7 g h).2.1, hg.2⟩
          · exact ⟨by omega, by omega, hg.2⟩
        have hSr := hS2.keep hK (by omega) (fun g hg h => (hY' g hg).elim (fun h1 => (e7 g (e6 g h1)).2.1 h) (fun h1 => by omega))
        refine ⟨rfl, (hK2.mono (fun g h _ => .inl h)).trans hK (fun g hg _ => .inr hg), fun g => (Z g ∨ w.heap.size ≤ g) ∧ g < wr.heap.size, ⟨ms', Y', hK.blk b2 (fun h => e8 h), hSr, hM, hMp, ⟨.inr hge, hSr.lt⟩, fun g hg => ⟨(hY' g hg).imp (e6 g) id, hSr.reg g hg⟩, hZ, e8⟩, fun g hg => hg.1⟩
  · have d0 := ne_yes h0
    obtain rfl : R = (⟨L, P⟩, er, at') := by rw [← HR.out, if_pos h0]
    clear hb hms HR hbig
    go_wp2_with fail
    refine bodyPost_ret (v := .tuple #[.int .i64 er, .int .i64 at']) (by simp [results, Try.results45, go_sem]) rfl ⟨rfl, Keep.of_below hb1, Z, hB0.below hb1, fun g hg => .inl hg⟩

end Go.Proofs.Ytjlglfjikfpboaa.books
