/- A tree of some secrets, as the laws of lists make it. -/
import Derived.Test.YtchghlbiongccaaKLsC
import Derived.Sort.Walk0
import Derived.Test.YtchghlbiongccaaKMix


namespace Go.Proofs.Ytchghlbiongccaa.trees
set_option linter.unusedVariables false
set_option linter.unusedSimpArgs false
open Go.RowKit Go.Shelf Go.Proofs.Ytchghlbiongccaa.base Go.Proofs.Ytchghlbiongccaa.quotas Go.Proofs.Ytchghlbiongccaa.vers Go.Proofs.Ytchghlbiongccaa.nodes

theorem infoEn : (Try.prog.info? 58).map (fun i => (i.zero, i.size, i.bytes)) = some (some (.agg #[.string ⟨#[]⟩, .slice none 0 0]), 2, 40) := by kernel_rfl
/-- append of one secret -/
theorem wp_secret {ops : Array Oper} {rest : List Oper} {o : Oper} {a : Act} {Q : Exit → Act → World → Prop} (hgd : o.guard = none) (s x : Operand) (ho : o.op = .call { callee := .builtin .append, args := #[s, x], argTypes := #[39, 39] })
    {w : World} {v : Value} {l : List E} {e : E} (hown : w.ownsRow 0 58 2 v l.length (cellsE l)) (hs : a.eval s = v) {q : Nat} (hx : a.eval x = .slice (some ⟨q, 0, none⟩) 1 1) (hqz : q = w.heap.size) (hlen : l.length ≤ 1000000)
    (h : ∀ v' w', w'.ownsRow 0 58 2 v' (l ++ [e]).length (cellsE (l ++ [e])) → Keep (fun g => v.ownBlock = some g) w w' → (∀ g, v'.ownBlock = some g → v.ownBlock = some g ∨ (w.heap.size ≤ g ∧ g < w'.heap.size)) → w.heap.size + 1 ≤ w'.heap.size → wpList Try.prog ops Q rest (a.put o.dst v') w') :
    wpList Try.prog ops Q (o :: rest) a (w.alloc (.cells #[.string e.s, .slice e.A e.l.length e.c] 58)) := by
  obtain ⟨i0, hi0, hz0, hz1, hz2⟩ := info_parts infoEn
  refine wpList_put1 Try.underlying39 hi0 hz0 hz1 hz2 rfl (by decide) hgd s x ho hown hs rfl (by intro u hu; simp at hu; rcases hu with rfl | rfl <;> rfl) hx hqz (by omega) (by unfold maxLen; omega) ?_
  intro v' w' h1 h2 h3 h4
  refine h v' w' ?_ h2 h3 h4
  rw [List.length_append, cellsE_app]
  exact h1

theorem clt {a b : ByteArray} (h : ltS a b = true) : Op.bytesLess a.toList b.toList = true ∧ Op.bytesLess b.toList a.toList = false ∧ (a.toList == b.toList) = false ∧ (b.toList == a.toList) = false := by
  have h2 := ltS_iff.1 h
  have h3 := ltS_asymm h
  have h1 : a.data.toList ≠ b.data.toList := fun e => by rw [name_ext e, ltS_irrefl] at h; cases h
  rw [Go.Proofs.bytesLess_eq, Go.Proofs.bytesLess_eq, Lib.toList_data, Lib.toList_data]
  exact ⟨h, h3, beq_eq_false_iff_ne.2 h1, beq_eq_false_iff_ne.2 (fun e => h1 e.symm)⟩
theorem ceq (a : ByteArray) : Op.bytesLess a.toList a.toList = false ∧ (a.toList == a.toList) = true := by
  rw [Go.Proofs.bytesLess_eq, Lib.toList_data]
  exact ⟨ltS_irrefl a, by simp⟩
theorem row_at {w : World} {v : Value} {le : List E} (h : w.ownsRow 0 58 2 v le.length (cellsE le)) : ∃ A c, v = .slice A le.length c ∧ ∀ j (hj : j < le.length), ∃ b, A = some ⟨b, 0, none⟩ ∧ v.ownBlock = some b ∧ b < w.heap.size ∧ w.cell? ⟨b, j * 2, none⟩ = some (.string le[j].s) ∧ w.cell? ⟨b, j * 2 + 1, none⟩ = some (.slice le[j].A le[j].l.length le[j].c) := by
  obtain ⟨hx, h1⟩ := h
  rcases h1 with ⟨rfl, hn⟩ | ⟨g, cap, cur, rfl, hg, hb, hc, _, hs, ht⟩
  · exact ⟨none, 0, by rw [hn], fun j hj => by omega⟩
  · refine ⟨_, cap, rfl, fun j hj => ⟨g, rfl, rfl, Blk.lt (t := 58) (cs := cur) hb, ?_⟩⟩
    have c0 := (cellsE_at le hj).1
    have c1 := (cellsE_at le hj).2
    rw [← ht, List.getElem?_take] at c0 c1
    rw [Nat.mul_comm j 2]
    refine ⟨?_, ?_⟩
    · rw [Blk.cell (t := 58) (cs := cur) hb]
      split at c0
      · simpa using c0
      · cases c0
    · rw [Blk.cell (t := 58) (cs := cur) hb]
      split at c1
      · simpa using c1
      · cases c1
theorem four4_own {S : Nat → Prop} {w w' : World} (h : Keep S w w') {g : Nat} (hg : S g) (a b c d : Value) : Keep S w (four4 w' g a b c d) := by
  have q := four4_below (Below.refl 0 w') (g := g) (Nat.zero_le _) a b c d
  exact ⟨q.os.trans h.os, q.tape.trans h.tape, q.output.trans h.output, by rw [four4_size]; exact h.size, fun k hk hn => (four4_heap _ _ _ _ _ _ _ (fun e => hn (by rw [e]; exact hg))).trans (h.block k hk hn)⟩
theorem refOf_fits2 {j : Nat} (h : j < 1000000) : (refOf j).fits := by
  unfold R.fits i64
  simp only [refOf]
  omega
structure GI (w : World) (l : List E) (h rb j : Nat) (S : Nat → Prop) (ns : List P3) (r : R) (ht : Nat) (v : Value) (wr : World) : Prop where
  below : Below w.heap.size w wr
  hp : Hp wr h S ns
  lo : ∀ g, S g → w.heap.size < g
  rbn : ¬ S rb
  kb : Blk wr rb 44 #[.int .u64 (r.k : Int), .int .i64 r.g, .int .i64 r.o, .int .i64 r.n]
  kz : Blk wr w.heap.size 44 #[.int .u64 0, .int .i64 0, .int .i64 0, .int .i64 0]
  lrb : w.heap.size < rb
  row : wr.ownsRow 0 58 2 v (growE l j).length (cellsE (growE l j))
  own : ∀ g, v.ownBlock = some g → w.heap.size < g ∧ ¬ S g ∧ g ≠ rb
  root : Root ns r ht ((growE l j).map pe)
  nlen : ns.length ≤ 1 + 17 * j
  ref : ∃ k, r = refOf k ∧ k < ns.length
theorem GI.next {w : World} {l : List E} {h rb j : Nat} {S : Nat → Prop} {ns : List P3} {r : R} {ht : Nat} {v : Value} {wr wr' : World} (I : GI w l h rb j S ns r ht v wr) (hb : Below wr.heap.size wr wr') : GI w l h rb j S ns r ht v wr' :=
  ⟨I.below.trans (hb.mono I.below.size), I.hp.below hb, I.lo, I.rbn, I.kb.below hb I.kb.lt, I.kz.below hb I.kz.lt, I.lrb, row_below I.row hb, I.own, I.root, I.nlen, I.ref⟩
/-- at the loop's head -/
def GH (w : World) (l : List E) (h rb : Nat) (i v : Value) (wr : World) : Prop :=
  ∃ (j : Nat) (S : Nat → Prop) (ns : List P3) (r : R) (ht : Nat), j ≤ l.length ∧ j ≤ 50 ∧ i = .int .i64 (j : Int) ∧ GI w l h rb j S ns r ht v wr
/-- at the inner loop's head -/
def IH (le : List E) (x : E) (W : World) (i u d : Value) (wi : World) : Prop :=
  ∃ (k : Nat) (bb : Bool), k ≤ le.length ∧ i = .int .i64 (k : Int) ∧ d = .bool bb ∧ Below W.heap.size W wi ∧ wi.ownsRow 0 58 2 u (inn le x k).length (cellsE (inn le x k)) ∧ Hid (bb = decide (innK le x < k) ∧ ∀ g, u.ownBlock = some g → W.heap.size ≤ g)
/-- what grown answers: a heap, a root, the secrets in order -/
def GPost (w : World) (l : List E) (le : List E) (e : Ending) (w' : World) : Prop :=
  ∃ (h : Nat) (S : Nat → Prop) (ns : List P3) (r : R) (ht : Nat) (v : Value), e = .returned (.tuple #[.pointer (some ⟨h, 0, none⟩), r.val, v]) ∧ Below w.heap.size w w' ∧ Hp w' h S ns ∧ (∀ g, S g → w.heap.size < g) ∧ Root ns r ht (le.map pe) ∧ ht ≤ 4 ∧ r.fits ∧
    w'.ownsRow 0 58 2 v le.length (cellsE le) ∧ (∀ g, v.ownBlock = some g → w.heap.size < g ∧ ¬ S g) ∧ le.length ≤ 50 ∧ Inc (le.map (·.s)) ∧ ∀ x ∈ le, x ∈ l
theorem root_h {ns : List P3} {r : R} {ht : Nat} {L : List PE} (t : Root ns r ht L) (hL : L.length ≤ 50) : ht ≤ 4 := by
  rcases Nat.lt_or_ge 4 ht with h | h
  · have h1 := t.len (by omega)
    have h2 : 2 ^ 6 ≤ 2 ^ (ht + 1) := Nat.pow_le_pow_right (by omega) (by omega)
    have : (2 : Nat) ^ 6 = 64 := rfl
    omega
  · exact h

set_option maxRecDepth 100000 in
set_option maxHeartbeats 8000000 in
theorem grown_ok (l : List E) (A : Option Addr) (c : Nat) (w : World) (hE : Es w w.heap.size l A c) :
    Calls Try.prog 27 #[.slice A l.length c] w (GPost w l (growE l (min l.length 50))) := by
  have hlen : l.length ≤ 140737488355328 := by have := hE.2.1; omega
  have bZ : Below w.heap.size w (w.alloc (.cells #[.int .u64 0, .int .i64 0, .int .i64 0, .int .i64 0] 44)) := (Below.refl _ _).alloc (Nat.le_refl _) _
  have kZ := Blk.new w 44 #[.int .u64 0, .int .i64 0, .int .i64 0, .int .i64 0]
  have lZ : w.heap.size < (w.alloc (.cells #[.int .u64 0, .int .i64 0, .int .i64 0, .int .i64 0] 44)).heap.size := by simp
  generalize hWZ : w.alloc (.cells #[.int .u64 0, .int .i64 0, .int .i64 0, .int .i64 0] 44) = WZ at *
  have hn := newHeap_any WZ
  go_enter Try.func27, Try.ntmps27
  go_wp2_with fail
  refine hn.mono ?_
  rintro e w1 ⟨h, rfl, hh, hH, hb1⟩
  have he := empty_ok h (fun g => g = h) [] w1 hH (by simp)
  simp only [List.nil_append, List.length_nil] at he
  have HR := vers.lay (rfl : refOf 0 = refOf 0)
  obtain ⟨rr, hrr⟩ : ∃ rr, rr = refOf 0 := ⟨_, rfl⟩
  rw [← hrr] at he
  have HRR := vers.lay hrr
  clear hrr HR hn
  obtain ⟨rk, rg, ro, rn⟩ := rr
  go_wp2_with fail
  refine he.mono ?_
  rintro e w2 ⟨S', rfl, hH2, hS2, hK2⟩
  clear he
  have kz2 := (hK2.blk (kZ.below hb1 lZ) (fun hs => by omega))
  have b2 : Below w.heap.size w w2 := (bZ.trans (hb1.mono (Nat.le_of_lt lZ))).trans (hK2.below (fun g hg => by omega) (by have := hb1.size; omega))
  have sw2 : w.heap.size < w2.heap.size := by have := hb1.size; have := hK2.size; omega
  have lo2 : ∀ g, S' g → w.heap.size < g := fun g hg => by rcases hS2 g hg with h1 | h1 <;> (have := hb1.size; omega)
  have b3 : Below w2.heap.size w2 (w2.alloc (.cells #[.int .u64 (rk : Int), .int .i64 rg, .int .i64 ro, .int .i64 rn] 44)) := (Below.refl _ _).alloc (Nat.le_refl _) _
  have kb3 := Blk.new w2 44 #[.int .u64 (rk : Int), .int .i64 rg, .int .i64 ro, .int .i64 rn]
  have hH3 := hH2.below b3
  have kz3 := kz2.below b3 kz2.lt
  have b30 := b2.trans (b3.mono (Nat.le_of_lt sw2))
  have hI0 : GI w l h w2.heap.size 0 S' [(true, [], [])] ⟨rk, rg, ro, rn⟩ 0 (.slice none 0 0) (w2.alloc (.cells #[.int .u64 (rk : Int), .int .i64 rg, .int .i64 ro, .int .i64 rn] 44)) :=
    ⟨b30, hH3, lo2, fun hs => Nat.lt_irrefl _ (hH2.lt _ hs), kb3, kz3, sw2, ⟨rfl, .inl ⟨rfl, rfl⟩⟩, (fun g hg => by cases hg), by rw [HRR.out]; exact Root.empty [], by simp, ⟨0, HRR.out, by simp⟩⟩
  clear hH2 hH3 kz2 kz3 kb3 b3 b30 lo2 hS2 hK2 bZ hb1 b2 hH hh kZ
  generalize hW3 : w2.alloc (.cells #[.int .u64 (rk : Int), .int .i64 rg, .int .i64 ro, .int .i64 rn] 44) = W3 at *
  go_wp2_with fail
  generalize w2.heap.size = rb at *
  go_loopw [32, 8] (GH w l h rb) (fun i _ _ => l.length - (intOf i).toNat)
  case atStart => exact ⟨0, S', _, _, 0, Nat.zero_le _, by omega, rfl, hI0⟩
  case round =>
    clear hI0 HRR
    obtain ⟨j, S, ns, r, ht, hj, hj50, rfl, hI⟩ := hrel
    by_cases hlt : j < l.length
    · by_cases h50 : j < 50
      · have I := hI
        clear hI
        obtain ⟨bk, off, rfl, hbk, x0, x1, hV⟩ := (hE.below I.below).at_ hlt
        have hsz := (hE.2.2.2.2 _ (List.getElem_mem hlt)).2
        have hnext := growE_next hlt
        have hinc := growE_inc l j
        have hlele := growE_len l j
        have HE := vers.lay hE
        clear hE
        obtain ⟨x, hx⟩ : ∃ x, x = l[j] := ⟨_, rfl⟩
        rw [← hx] at x0 x1 hV hsz hnext
        clear hx
        obtain ⟨xs, xl, xA, xc⟩ := x
        simp only [] at x0 x1 hV hsz
        have row := I.row
        have root := I.root
        have hown := I.own
        obtain ⟨le, hle⟩ : ∃ le, le = growE l j := ⟨_, rfl⟩
        rw [← hle] at row root hnext hinc hlele
        have HLE := vers.lay hle
        clear hle
        obtain ⟨k0, hk0, hk0l⟩ := I.ref
        have hht := root_h root (by rw [List.length_map]; omega)
        have hfit : r.fits := by rw [hk0]; exact refOf_fits2 (by have := I.nlen; omega)
        have hnl := I.nlen
        obtain ⟨way, leaf, m, r', h', hd, hwl, hIl, hat, hll, hput, hroot, hh', hml, href⟩ := put_root root (xs, xl) (by unfold nm; rw [pe_map]; exact hinc) (by omega)
        have bX : Below wr.heap.size wr (wr.alloc (.cells #[.string xs, .slice xA xl.length xc] 58)) := (Below.refl _ _).alloc (Nat.le_refl _) _
        have kX := Blk.new wr 58 #[.string xs, .slice xA xl.length xc]
        have zX : (wr.alloc (.cells #[.string xs, .slice xA xl.length xc] 58)).heap.size = wr.heap.size + 1 := by simp
        have zwr := I.below.size
        have hput2 := put_ok h S ns r xs xl xA xc way leaf _ (I.hp.below bX) hfit ((hV.below (bX.mono zwr)).more (Nat.le_trans zwr bX.size)) hsz hd hIl (by omega) hat hll (by omega)
        rw [hput] at hput2
        have kbX := I.kb.below bX I.kb.lt
        have kzX := I.kz.below bX I.kz.lt
        have rowX := row_below row bX
        have lbw := I.kb.lt
        have lzw := I.kz.lt
        obtain ⟨Av, cv, rfl, _⟩ := row_at row
        have HROOT := vers.lay (show Root (ns ++ m) r' h' ((withE le ⟨xs, xl, xA, xc⟩).map pe) by rw [withE_p]; exact hroot)
        have HML := vers.lay (show (ns ++ m).length ≤ 1 + 17 * (j + 1) by rw [List.length_append]; omega)
        have HREF := vers.lay href
        have HNX := vers.lay hnext
        have HI := vers.lay I
        have HSlt := vers.lay I.hp.lt
        have HOWN := vers.lay hown
        clear hroot href hnext hd hwl hIl hat hll hput hh' hml root hk0 I hfit hown row hV hnl
        obtain ⟨rk, rg, ro, rn⟩ := r
        obtain ⟨rk', rg', ro', rn'⟩ := r'
        generalize hWX : wr.alloc (.cells #[.string xs, .slice xA xl.length xc] 58) = WX at *
        have q0 := kX.cell 0
        have q1 := kX.cell 1
        have b0 := kbX.cell 0
        have b1 := kbX.cell 1
        have b2 := kbX.cell 2
        have b3 := kbX.cell 3
        simp only [List.getElem?_toArray, List.getElem?_cons_zero, List.getElem?_cons_succ] at q0 q1 b0 b1 b2 b3
        have lX := kX.lt
        have lbX := kbX.lt
        have ZX := vers.lay zX
        clear zX
        go_wp2_with fail
        refine hput2.mono ?_
        rintro e w1 ⟨S', rfl, hH1, hS1, hK1⟩
        clear hput2 q0 q1 b0 b1 b2 b3
        have nSb : ¬ S rb := HI.out.rbn
        have nSz : ¬ S w.heap.size := fun hs => Nat.lt_irrefl _ (HI.out.lo _ hs)
        have nSx : ¬ S wr.heap.size := fun hs => Nat.lt_irrefl _ (HSlt.out _ hs)
        have kb1 := hK1.blk kbX nSb
        have kz1 := hK1.blk kzX nSz
        have kX1 := hK1.blk kX nSx
        have row1 := ownsRow_agree rowX (w' := w1) (fun g hg => hK1.block g (by have := (rowX.lt g hg).2; omega) (fun hs => (HOWN.out g hg).2.1 hs))
        have sK1 := hK1.size
        have bL : Below w1.heap.size w1 (w1.alloc (.cells #[.int .u64 (rk' : Int), .int .i64 rg', .int .i64 ro', .int .i64 rn'] 44)) := (Below.refl _ _).alloc (Nat.le_refl _) _
        have kL := Blk.new w1 44 #[.int .u64 (rk' : Int), .int .i64 rg', .int .i64 ro', .int .i64 rn']
        have kb2 := kb1.below bL kb1.lt
        have kz2 := kz1.below bL kz1.lt
        have kX2 := kX1.below bL kX1.lt
        have row2 := row_below row1 bL
        have hH2 := hH1.below bL
        have zL : (w1.alloc (.cells #[.int .u64 (rk' : Int), .int .i64 rg', .int .i64 ro', .int .i64 rn'] 44)).heap.size = w1.heap.size + 1 := by simp
        generalize hWL : w1.alloc (.cells #[.int .u64 (rk' : Int), .int .i64 rg', .int .i64 ro', .int .i64 rn'] 44) = WL at *
        have b0 := kb2.cell 0
        have b1 := kb2.cell 1
        have b2 := kb2.cell 2
        have b3 := kb2.cell 3
        have f0 := kb2.frozen 0
        have f1 := kb2.frozen 1
        have f2 := kb2.frozen 2
        have f3 := kb2.frozen 3
        have c0 := kL.cell 0
        have c1 := kL.cell 1
        have c2 := kL.cell 2
        have c3 := kL.cell 3
        simp only [List.getElem?_toArray, List.getElem?_cons_zero, List.getElem?_cons_succ] at b0 b1 b2 b3 c0 c1 c2 c3
        have lL := kL.lt
        have lb2 := kb2.lt
        have ZL := vers.lay zL
        clear zL
        go_wp2_with fail
        have kb3 := (((kb2.put 0 (.int .u64 (rk' : Int))).put 1 (.int .i64 rg')).put 2 (.int .i64 ro')).put 3 (.int .i64 rn')
        have hfour := fun k hk => four4_heap WL rb (.int .u64 (rk' : Int)) (.int .i64 rg') (.int .i64 ro') (.int .i64 rn') k hk
        have hfsz := four4_size WL rb (.int .u64 (rk' : Int)) (.int .i64 rg') (.int .i64 ro') (.int .i64 rn')
        have lrb := HI.out.lrb
        have bW : Below w.heap.size w WX := HI.out.below.trans (bX.mono HI.out.below.size)
        have bW1 : Below w.heap.size w WL := (bW.trans (hK1.below (fun g hg => Nat.le_of_lt (HI.out.lo g hg)) bW.size)).trans (bL.mono (by have := bW.size; omega))
        have bW2 := four4_below bW1 (g := rb) (Nat.le_of_lt lrb) (.int .u64 (rk' : Int)) (.int .i64 rg') (.int .i64 ro') (.int .i64 rn')
        have zX := ZX.out
        have nS'b : ¬ S' rb := fun hs => by rcases hS1 _ hs with h1 | h1; exact nSb h1; omega
        have nS'lo : ∀ g, S' g → w.heap.size < g := fun g hs => by rcases hS1 g hs with h1 | h1; exact HI.out.lo g h1; have := bW.size; omega
        have S'lt : ∀ g, S' g → g < w1.heap.size := hH1.lt
        have hH3 := hH2.four nS'b (.int .u64 (rk' : Int)) (.int .i64 rg') (.int .i64 ro') (.int .i64 rn')
        have nrz : w.heap.size ≠ rb := by omega
        have nrx : wr.heap.size ≠ rb := by omega
        have kz3 : Blk (four4 WL rb (.int .u64 (rk' : Int)) (.int .i64 rg') (.int .i64 ro') (.int .i64 rn')) w.heap.size 44 #[.int .u64 0, .int .i64 0, .int .i64 0, .int .i64 0] := (hfour _ nrz).trans kz2
        have kX3 : Blk (four4 WL rb (.int .u64 (rk' : Int)) (.int .i64 rg') (.int .i64 ro') (.int .i64 rn')) wr.heap.size 58 #[.string xs, .slice xA xl.length xc] := (hfour _ nrx).trans kX2
        have row3 := ownsRow_agree row2 (w' := four4 WL rb (.int .u64 (rk' : Int)) (.int .i64 rg') (.int .i64 ro') (.int .i64 rn')) (fun g hg => hfour g (HOWN.out g hg).2.2)
        unfold four4 at hfsz bW2 hH3 kz3 kX3 row3
        simp only [List.setIfInBounds_toArray, List.set_cons_zero, List.set_cons_succ] at kb3
        clear hfour b0 b1 b2 b3 c0 c1 c2 c3 f0 f1 f2 f3 kb2 kz2 kX2 row2 hH2 kL bW1
        generalize (((WL.setCell ⟨rb, 0, none⟩ (.int .u64 (rk' : Int))).setCell ⟨rb, 1, none⟩ (.int .i64 rg')).setCell ⟨rb, 2, none⟩ (.int .i64 ro')).setCell ⟨rb, 3, none⟩ (.int .i64 rn') = W4 at hfsz bW2 hH3 kz3 kX3 row3 kb3 ⊢
        have z4 : w1.heap.size < W4.heap.size := by have := ZL.out; omega
        clear hfsz
        have llX : wr.heap.size < W4.heap.size := by omega
        have hle50 : le.length ≤ 50 := by omega
        clear kb1 kz1 kX1 row1 hH1 hK1 bL hWL lL lb2 ZL kbX kzX rowX kX hWX lX lbX bX bW zX ZX x0 x1
        generalize wr.heap.size = bx at *
        go_loopw [53, 13, 14] (IH le ⟨xs, xl, xA, xc⟩ W4) (fun i _ _ _ => le.length - (intOf i).toNat)
        case atStart => exact ⟨0, false, Nat.zero_le _, rfl, rfl, Below.refl _ _, by rw [inn_zero]; exact ⟨rfl, .inl ⟨rfl, rfl⟩⟩, vers.lay ⟨by simp, fun g hg => by cases hg⟩⟩
        case round =>
          obtain ⟨k, bb, hk, rfl, rfl, hbi, rowi, hid⟩ := hrel
          have zi := hbi.size
          have hil := inn_len le ⟨xs, xl, xA, xc⟩ k
          by_cases hkl : k < le.length
          · obtain ⟨_, _, ea, hcell⟩ := row_at (row_below row3 hbi)
            injection ea with ea1 _ ea2
            subst ea1 ea2
            obtain ⟨by_, rfl, hob, hbl, y0, y1⟩ := hcell k hkl
            clear hcell
            have hltc := fun h => inn_lt (x := ⟨xs, xl, xA, xc⟩) hinc hkl h
            have hgec := fun h => inn_ge (x := ⟨xs, xl, xA, xc⟩) hinc hkl h
            have hgtc := fun h => inn_gt (x := ⟨xs, xl, xA, xc⟩) hinc hkl h
            have heqc := fun (h : innK le ⟨xs, xl, xA, xc⟩ = k) (h2 : le[k].s = xs) => (show inn le ⟨xs, xl, xA, xc⟩ (k + 1) = inn le ⟨xs, xl, xA, xc⟩ k ++ [⟨xs, xl, xA, xc⟩] by subst h; exact inn_eq hkl h2)
            have hnec := fun (h : innK le ⟨xs, xl, xA, xc⟩ = k) (h2 : le[k].s ≠ xs) => (show inn le ⟨xs, xl, xA, xc⟩ (k + 1) = (inn le ⟨xs, xl, xA, xc⟩ k ++ [⟨xs, xl, xA, xc⟩]) ++ [le[k]] by subst h; exact inn_ne hkl h2)
            obtain ⟨y, hy⟩ : ∃ y, y = le[k] := ⟨_, rfl⟩
            rw [← hy] at y0 y1 heqc hnec
            simp only [← hy] at hltc hgec hgtc
            clear hy
            obtain ⟨ys, yl, yA, yc⟩ := y
            simp only [] at y0 y1 hltc hgec hgtc heqc hnec
            obtain ⟨old, hold⟩ : ∃ old, old = inn le ⟨xs, xl, xA, xc⟩ k := ⟨_, rfl⟩
            rw [← hold] at rowi hltc hgtc heqc hnec hil
            have bY : Below wr.heap.size wr (wr.alloc (.cells #[.string ys, .slice yA yl.length yc] 58)) := (Below.refl _ _).alloc (Nat.le_refl _) _
            have kY := Blk.new wr 58 #[.string ys, .slice yA yl.length yc]
            have rowY := row_below rowi bY
            have bY4 : Below W4.heap.size W4 (wr.alloc (.cells #[.string ys, .slice yA yl.length yc] 58)) := hbi.trans (bY.mono zi)
            have kXY := (kX3.below bY4 llX : Blk (wr.alloc (.cells #[.string ys, .slice yA yl.length yc] 58)) bx 58 #[.string xs, .slice xA xl.length xc])
            have hui := hid.out.2
            have huo := fun g hg => (rowi.lt g hg).2
            have lYY : wr.heap.size < (wr.alloc (.cells #[.string ys, .slice yA yl.length yc] 58)).heap.size := by simp
            generalize hWY : wr.alloc (.cells #[.string ys, .slice yA yl.length yc] 58) = WY at *
            have p0 := kY.cell 0
            have p1 := kY.cell 1
            have q0 := kXY.cell 0
            have q1 := kXY.cell 1
            simp only [List.getElem?_toArray, List.getElem?_cons_zero, List.getElem?_cons_succ] at p0 p1 q0 q1
            have lXY := kXY.lt
            have hbb := hid.out.1
            have nxy : bx ≠ wr.heap.size := by omega
            have HUI := vers.lay hui
            have HUO := vers.lay huo
            have HOLD := vers.lay hold
            clear hui huo hold hid row3 rowi kX3
            rcases Nat.lt_trichotomy k (innK le ⟨xs, xl, xA, xc⟩) with hc | hc | hc
            · obtain ⟨e1, e2⟩ := hltc hc
              obtain rfl : bb = false := by rw [hbb]; exact decide_eq_false (by omega)
              obtain ⟨g1, g2, g3, g4⟩ := clt e1
              have HN := vers.lay e2
              have HB := vers.lay (show false = decide (innK le ⟨xs, xl, xA, xc⟩ < k + 1) from (decide_eq_false (by omega)).symm)
              clear hltc hgec hgtc heqc hnec e1 e2 hbb hc
              go_wp2_with (at_builtin; refine wp_secret (e := ⟨ys, yl, yA, yc⟩) rfl _ _ rfl rowY rfl rfl rfl (by omega) ?_; intro v9 w9 ho9 hk9 hv9 hz9)
              refine ⟨⟨k + 1, _, hkl, by go_num, rfl, bY4.trans (hk9.below (fun g hg => HUI.out g hg) bY4.size), by rw [HN.out]; exact ho9, vers.lay ⟨HB.out, fun g hg => (hv9 g hg).elim (fun h => HUI.out g h) (fun h => by omega)⟩⟩, by first | (simp [intOf]; done) | (simp [intOf]; omega) | omega⟩
            · have e1 := hgec (Nat.le_of_eq hc.symm)
              obtain rfl : bb = false := by rw [hbb]; exact decide_eq_false (by omega)
              have HB := vers.lay (show true = decide (innK le ⟨xs, xl, xA, xc⟩ < k + 1) from (decide_eq_true (by omega)).symm)
              by_cases hs : ys = xs
              · have HN := vers.lay (heqc hc.symm hs)
                subst hs
                obtain ⟨g1, g2⟩ := ceq ys
                clear hltc hgec hgtc heqc hnec e1 hbb hc
                go_wp2_with (at_builtin; refine wp_secret (e := ⟨ys, xl, xA, xc⟩) rfl _ _ rfl rowY rfl rfl rfl (by omega) ?_; intro v9 w9 ho9 hk9 hv9 hz9; have kY9 := hk9.blk kY (fun hs => by have := HUO.out _ hs; omega); have kX9 := hk9.blk kXY (fun hs => by have := HUI.out _ hs; omega); have p0 := kY9.cell 0; have q0 := kX9.cell 0; simp only [List.getElem?_toArray, List.getElem?_cons_zero, List.getElem?_cons_succ] at p0 q0; have lY9 := kY9.lt; have lX9 := kX9.lt)
                refine ⟨⟨k + 1, _, hkl, by go_num, rfl, bY4.trans (hk9.below (fun g hg => HUI.out g hg) bY4.size), by rw [HN.out]; exact ho9, vers.lay ⟨HB.out, fun g hg => (hv9 g hg).elim (fun h => HUI.out g h) (fun h => by omega)⟩⟩, by first | (simp [intOf]; done) | (simp [intOf]; omega) | omega⟩
              · have HN := vers.lay (hnec hc.symm hs)
                have e3 : ltS xs ys = true := by
                  cases h : ltS xs ys with
                  | true => rfl
                  | false => exact absurd (ltS_total e1 h) hs
                obtain ⟨g1, g2, g3, g4⟩ := clt e3
                clear hltc hgec hgtc heqc hnec e1 e3 hbb hc hs
                go_wp2_with (first | (at_builtin; refine wp_secret (e := ⟨xs, xl, xA, xc⟩) rfl _ _ rfl rowY rfl rfl rfl (by omega) ?_; intro v8 w8 ho8 hk8 hv8 hz8; have kY8 := hk8.blk kY (fun hs => by have := HUO.out _ hs; omega); have kX8 := hk8.blk kXY (fun hs => by have := HUI.out _ hs; omega); have u0 := kY8.cell 0; have u1 := kY8.cell 1; have t0 := kX8.cell 0; simp only [List.getElem?_toArray, List.getElem?_cons_zero, List.getElem?_cons_succ] at u0 u1 t0; have lY8 := kY8.lt; have lX8 := kX8.lt; have HU8 := vers.lay (fun g hg => (hv8 g hg).elim (fun h => HUI.out g h) (fun h => Nat.le_trans zi (Nat.le_trans (Nat.le_of_lt lYY) h.1))); have b8 := bY4.trans (hk8.below (fun g hg => HUI.out g hg) bY4.size)) | (at_builtin; refine wp_secret (e := ⟨ys, yl, yA, yc⟩) rfl _ _ rfl ho8 rfl rfl rfl (by simp only [List.length_append, List.length_singleton]; omega) ?_; intro v9 w9 ho9 hk9 hv9 hz9))
                refine ⟨⟨k + 1, _, hkl, by go_num, rfl, b8.trans (hk9.below (fun g hg => HU8.out g hg) b8.size), by rw [HN.out]; exact ho9, vers.lay ⟨HB.out, fun g hg => (hv9 g hg).elim (fun h => HU8.out g h) (fun h => by have := b8.size; omega)⟩⟩, by first | (simp [intOf]; done) | (simp [intOf]; omega) | omega⟩
            · have e1 := hgec (Nat.le_of_lt hc)
              obtain ⟨e2, e4⟩ := hgtc hc
              obtain rfl : bb = true := by rw [hbb]; exact decide_eq_true (by omega)
              have HB := vers.lay (show true = decide (innK le ⟨xs, xl, xA, xc⟩ < k + 1) from (decide_eq_true (by omega)).symm)
              have HN := vers.lay e4
              have e3 : ltS xs ys = true := by
                cases h : ltS xs ys with
                | true => rfl
                | false => exact absurd (ltS_total e1 h) e2
              obtain ⟨g1, g2, g3, g4⟩ := clt e3
              clear hltc hgec hgtc heqc hnec e1 e2 e3 e4 hbb hc
              go_wp2_with (at_builtin; refine wp_secret (e := ⟨ys, yl, yA, yc⟩) rfl _ _ rfl rowY rfl rfl rfl (by omega) ?_; intro v9 w9 ho9 hk9 hv9 hz9)
              refine ⟨⟨k + 1, _, hkl, by go_num, rfl, bY4.trans (hk9.below (fun g hg => HUI.out g hg) bY4.size), by rw [HN.out]; exact ho9, vers.lay ⟨HB.out, fun g hg => (hv9 g hg).elim (fun h => HUI.out g h) (fun h => by omega)⟩⟩, by first | (simp [intOf]; done) | (simp [intOf]; omega) | omega⟩
          · obtain rfl : k = le.length := by omega
            have hui := hid.out.2
            have hbb := hid.out.1
            have HUI := vers.lay hui
            clear hid hui
            have hH4 := hH3.below hbi
            have kX4 := kX3.below hbi llX
            have kb4 := kb3.below hbi kb3.lt
            have kz4 := kz3.below hbi kz3.lt
            have bW4 := bW2.trans (hbi.mono bW2.size)
            by_cases hK : innK le ⟨xs, xl, xA, xc⟩ < le.length
            · obtain rfl : bb = true := by rw [hbb]; exact decide_eq_true hK
              have HEN := vers.lay (inn_end hK)
              clear hbb hK
              go_wp2_with fail
              refine ⟨⟨j + 1, S', ns ++ m, _, h', hlt, by omega, by go_num, bW4, hH4, nS'lo, nS'b, kb4, kz4, lrb, ?_, ?_, ?_, HML.out, HREF.out⟩, by first | (simp [intOf]; done) | (simp [intOf]; omega) | omega⟩
              · rw [HNX.out, ← HEN.out]; exact rowi
              · intro g hg
                have := HUI.out g hg
                have := bW2.size
                exact ⟨by omega, fun hs => by have := S'lt g hs; omega, by omega⟩
              · rw [HNX.out]; exact HROOT.out
            · obtain rfl : bb = false := by rw [hbb]; exact decide_eq_false hK
              have hK2 : innK le ⟨xs, xl, xA, xc⟩ = le.length := by have := innK_le le ⟨xs, xl, xA, xc⟩; omega
              have HEN := vers.lay (inn_end' hK2)
              obtain ⟨old, hold⟩ : ∃ old, old = inn le ⟨xs, xl, xA, xc⟩ le.length := ⟨_, rfl⟩
              rw [← hold] at rowi hil
              have HOLD := vers.lay hold
              clear hbb hK hK2 hold
              have q0 := Blk.cell (t := 58) (cs := #[.string xs, .slice xA xl.length xc]) kX4 0
              have q1 := Blk.cell (t := 58) (cs := #[.string xs, .slice xA xl.length xc]) kX4 1
              simp only [List.getElem?_toArray, List.getElem?_cons_zero, List.getElem?_cons_succ] at q0 q1
              have lX4 := Blk.lt (t := 58) (cs := #[.string xs, .slice xA xl.length xc]) kX4
              go_wp2_with (at_builtin; refine wp_secret (e := ⟨xs, xl, xA, xc⟩) rfl _ _ rfl rowi rfl rfl rfl (by omega) ?_; intro v9 w9 ho9 hk9 hv9 hz9)
              have lk9 := hk9.size
              refine ⟨⟨j + 1, S', ns ++ m, _, h', hlt, by omega, by go_num, bW4.trans (hk9.below (fun g hg => by have := HUI.out g hg; have := bW2.size; omega) (by have := bW4.size; omega)), hH4.agree (fun g hg => hk9.block g (by have := hH4.lt g hg; omega) (fun hs => by have := HUI.out g hs; have := S'lt g hg; omega)) lk9, nS'lo, nS'b, hk9.blk kb4 (fun hs => by have := HUI.out _ hs; omega), hk9.blk kz4 (fun hs => by have := HUI.out _ hs; omega), lrb, ?_, ?_, ?_, HML.out, HREF.out⟩, by first | (simp [intOf]; done) | (simp [intOf]; omega) | omega⟩
              · rw [HNX.out, HEN.out, ← HOLD.out]; exact ho9
              · intro g hg
                have := bW2.size
                have h9 : W4.heap.size ≤ g := (hv9 g hg).elim (fun h => HUI.out g h) (fun h => by omega)
                exact ⟨by omega, fun hs => by have := S'lt g hs; omega, by omega⟩
              · rw [HNX.out]; exact HROOT.out
      · obtain rfl : j = 50 := by omega
        obtain ⟨bk, off, rfl, hbk, x0, x1, hV⟩ := (hE.below hI.below).at_ hlt
        have hbw := hI.below.size
        clear hE hV
        generalize l[50] = x at x0 x1
        obtain ⟨xs, xl, xA, xc⟩ := x
        simp only [] at x0 x1
        have bX : Below wr.heap.size wr (wr.alloc (.cells #[.string xs, .slice xA xl.length xc] 58)) := (Below.refl _ _).alloc (Nat.le_refl _) _
        have hI2 := hI.next bX
        clear hI bX
        generalize hWX : wr.alloc (.cells #[.string xs, .slice xA xl.length xc] 58) = WX at *
        have hI := hI2
        clear hI2
        have I := hI
        clear hI
        obtain ⟨rk, rg, ro, rn⟩ := r
        have kb := I.kb
        have lb := kb.lt
        have x0 := kb.cell 0
        have x1 := kb.cell 1
        have x2 := kb.cell 2
        have x3 := kb.cell 3
        simp only [List.getElem?_toArray, List.getElem?_cons_zero, List.getElem?_cons_succ] at x0 x1 x2 x3
        have hne : rb ≠ w.heap.size := by have := I.lrb; omega
        have HI := vers.lay I
        clear I
        go_wp2_with fail
        have hS1 : Below WX.heap.size WX WX.drew := (Below.refl _ _).drew
        have hS0 : Keep (fun g => g = w.heap.size) WX WX.drew := Keep.of_below hS1
        refine mix.region_D (fun w' => Keep (fun g => g = w.heap.size) WX w') (fun j => j == 5) (by kernel_rfl) ?_
        generalize WX.drew = wd at hS0 hS1 ⊢
        refine mix.D_takeT (i := 0) (v := ?_) rfl (by kernel_rfl) (by kernel_rfl) (fun _ _ _ h => h) (Or.inl ⟨by rfl, ?_⟩) hS0 ?_
        rotate_left
        · intro w' hSw
          try simp only [List.getElem_toArray, List.getElem_cons_zero, List.getElem_cons_succ]
          go_simp
          exact rfl
        try simp only [Act.put, List.setIfInBounds_toArray, List.set_cons_zero, List.set_cons_succ, List.getElem_toArray, List.getElem_cons_zero, List.getElem_cons_succ]
        refine mix.D_takeT (i := 1) (v := ?_) rfl (by kernel_rfl) (by kernel_rfl) (fun _ _ _ h => h) (Or.inl ⟨by rfl, ?_⟩) hS0 ?_
        rotate_left
        · intro w' hSw
          have y0 := (hSw.cell (p := ⟨rb, 0, none⟩) lb hne).trans x0
          have y1 := (hSw.cell (p := ⟨rb, 1, none⟩) lb hne).trans x1
          have y2 := (hSw.cell (p := ⟨rb, 2, none⟩) lb hne).trans x2
          have y3 := (hSw.cell (p := ⟨rb, 3, none⟩) lb hne).trans x3
          try simp only [List.getElem_toArray, List.getElem_cons_zero, List.getElem_cons_succ]
          go_simp
          exact rfl
        try simp only [Act.put, List.setIfInBounds_toArray, List.set_cons_zero, List.set_cons_succ, List.getElem_toArray, List.getElem_cons_zero, List.getElem_cons_succ]
        refine mix.D_takeT (i := 2) (v := ?_) rfl (by kernel_rfl) (by kernel_rfl) (fun _ _ _ h => h) (Or.inl ⟨by rfl, ?_⟩) hS0 ?_
        rotate_left
        · intro w' hSw
          try simp only [List.getElem_toArray, List.getElem_cons_zero, List.getElem_cons_succ]
          go_simp
          exact rfl
        try simp only [Act.put, List.setIfInBounds_toArray, List.set_cons_zero, List.set_cons_succ, List.getElem_toArray, List.getElem_cons_zero, List.getElem_cons_succ]
        have kz := HI.out.kz.below hS1 HI.out.kz.lt
        have lz := kz.lt
        have g0 := kz.frozen 0
        have g1 := kz.frozen 1
        have g2 := kz.frozen 2
        have g3 := kz.frozen 3
        have z0 := kz.cell 0
        have z1 := kz.cell 1
        have z2 := kz.cell 2
        have z3 := kz.cell 3
        simp only [List.getElem?_toArray, List.getElem?_cons_zero, List.getElem?_cons_succ] at z0 z1 z2 z3
        clear x0 x1 x2 x3 kb
        refine mix.D_op (k := 3) rfl rfl (by kernel_rfl) (fun K' hK => ?_)
        simp only [List.getElem_toArray, List.getElem_cons_zero, List.getElem_cons_succ]
        go_wp2_with fail
        refine hK.out _ _ (fun _ => hS0) ?_
        clear hK K'
        try simp only [Act.put, List.setIfInBounds_toArray, List.set_cons_zero, List.set_cons_succ]
        refine mix.D_op (k := 4) rfl rfl (by kernel_rfl) (fun K' hK => ?_)
        simp only [List.getElem_toArray, List.getElem_cons_zero, List.getElem_cons_succ]
        go_wp2_with fail
        have kz9 := (((kz.put 0 (.int .u64 (rk : Int))).put 1 (.int .i64 rg)).put 2 (.int .i64 ro)).put 3 (.int .i64 rn)
        have I := HI.out
        have K9 := four4_own hS0 (g := w.heap.size) rfl (.int .u64 (rk : Int)) (.int .i64 rg) (.int .i64 ro) (.int .i64 rn)
        have b9 := four4_below (I.below.trans (hS1.mono I.below.size)) (g := w.heap.size) (Nat.le_refl _) (.int .u64 (rk : Int)) (.int .i64 rg) (.int .i64 ro) (.int .i64 rn)
        have hp9 := (I.hp.below hS1).four (g := w.heap.size) (fun hs => Nat.lt_irrefl _ (I.lo _ hs)) (.int .u64 (rk : Int)) (.int .i64 rg) (.int .i64 ro) (.int .i64 rn)
        have row9 := ownsRow_agree (row_below I.row hS1) (w' := four4 wd w.heap.size (.int .u64 (rk : Int)) (.int .i64 rg) (.int .i64 ro) (.int .i64 rn)) (fun g hg => four4_heap _ _ _ _ _ _ _ (by have := (I.own g hg).1; omega))
        unfold four4 at b9 hp9 row9 K9
        simp only [List.setIfInBounds_toArray, List.set_cons_zero, List.set_cons_succ] at kz9
        refine hK.out _ _ (fun _ => K9) ?_
        clear hK K' K9 g0 g1 g2 g3 kz hS0
        try simp only [Act.put, List.setIfInBounds_toArray, List.set_cons_zero, List.set_cons_succ]
        generalize (((wd.setCell ⟨w.heap.size, 0, none⟩ (.int .u64 (rk : Int))).setCell ⟨w.heap.size, 1, none⟩ (.int .i64 rg)).setCell ⟨w.heap.size, 2, none⟩ (.int .i64 ro)).setCell ⟨w.heap.size, 3, none⟩ (.int .i64 rn) = wX at kz9 b9 hp9 row9 ⊢
        clear z0 z1 z2 z3
        refine mix.D_op (k := 5) rfl rfl (by kernel_rfl) (fun K' hK => ?_)
        simp only [List.getElem_toArray, List.getElem_cons_zero, List.getElem_cons_succ]
        go_wp2_with fail
        refine hK.out _ _ (fun h => by simp at h) ?_
        clear hK K'
        refine mix.D_done (by kernel_rfl) ?_ _
        go_wp2_with fail
        have z0 := kz9.cell 0
        have z1 := kz9.cell 1
        have z2 := kz9.cell 2
        have z3 := kz9.cell 3
        simp only [List.getElem?_toArray, List.getElem?_cons_zero, List.getElem?_cons_succ] at z0 z1 z2 z3
        have hln := growE_len l (50)
        have hmin : min l.length 50 = 50 := by omega
        obtain ⟨k9, hk9, hk9l⟩ := I.ref
        refine bodyPost_ret (v := .tuple #[.pointer (some ⟨h, 0, none⟩), .agg #[.int .u64 (rk : Int), .int .i64 rg, .int .i64 ro, .int .i64 rn], u8]) (by simp [results, Try.results27, go_sem, z0, z1, z2, z3]) rfl ⟨h, S, ns, ⟨rk, rg, ro, rn⟩, ht, u8, rfl, b9, hp9, I.lo, ?_⟩
        rw [hmin]
        exact ⟨I.root, root_h I.root (by rw [List.length_map]; omega), by rw [hk9]; exact refOf_fits2 (by have := I.nlen; omega), row9, fun g hg => ⟨(I.own g hg).1, (I.own g hg).2.1⟩, by omega, growE_inc l _, fun x hx => growE_mem _ hx⟩
    · obtain rfl : j = l.length := by omega
      have I := hI
      clear hI
      obtain ⟨rk, rg, ro, rn⟩ := r
      have kb := I.kb
      have lb := kb.lt
      have x0 := kb.cell 0
      have x1 := kb.cell 1
      have x2 := kb.cell 2
      have x3 := kb.cell 3
      simp only [List.getElem?_toArray, List.getElem?_cons_zero, List.getElem?_cons_succ] at x0 x1 x2 x3
      have hne : rb ≠ w.heap.size := by have := I.lrb; omega
      have HI := vers.lay I
      clear I
      go_wp2_with fail
      have hS1 : Below wr.heap.size wr wr.drew := (Below.refl _ _).drew
      have hS0 : Keep (fun g => g = w.heap.size) wr wr.drew := Keep.of_below hS1
      refine mix.region_D (fun w' => Keep (fun g => g = w.heap.size) wr w') (fun j => j == 5) (by kernel_rfl) ?_
      generalize wr.drew = wd at hS0 hS1 ⊢
      refine mix.D_takeT (i := 0) (v := ?_) rfl (by kernel_rfl) (by kernel_rfl) (fun _ _ _ h => h) (Or.inl ⟨by rfl, ?_⟩) hS0 ?_
      rotate_left
      · intro w' hSw
        try simp only [List.getElem_toArray, List.getElem_cons_zero, List.getElem_cons_succ]
        go_simp
        exact rfl
      try simp only [Act.put, List.setIfInBounds_toArray, List.set_cons_zero, List.set_cons_succ, List.getElem_toArray, List.getElem_cons_zero, List.getElem_cons_succ]
      refine mix.D_takeT (i := 1) (v := ?_) rfl (by kernel_rfl) (by kernel_rfl) (fun _ _ _ h => h) (Or.inl ⟨by rfl, ?_⟩) hS0 ?_
      rotate_left
      · intro w' hSw
        have y0 := (hSw.cell (p := ⟨rb, 0, none⟩) lb hne).trans x0
        have y1 := (hSw.cell (p := ⟨rb, 1, none⟩) lb hne).trans x1
        have y2 := (hSw.cell (p := ⟨rb, 2, none⟩) lb hne).trans x2
        have y3 := (hSw.cell (p := ⟨rb, 3, none⟩) lb hne).trans x3
        try simp only [List.getElem_toArray, List.getElem_cons_zero, List.getElem_cons_succ]
        go_simp
        exact rfl
      try simp only [Act.put, List.setIfInBounds_toArray, List.set_cons_zero, List.set_cons_succ, List.getElem_toArray, List.getElem_cons_zero, List.getElem_cons_succ]
      refine mix.D_takeT (i := 2) (v := ?_) rfl (by kernel_rfl) (by kernel_rfl) (fun _ _ _ h => h) (Or.inl ⟨by rfl, ?_⟩) hS0 ?_
      rotate_left
      · intro w' hSw
        try simp only [List.getElem_toArray, List.getElem_cons_zero, List.getElem_cons_succ]
        go_simp
        exact rfl
      try simp only [Act.put, List.setIfInBounds_toArray, List.set_cons_zero, List.set_cons_succ, List.getElem_toArray, List.getElem_cons_zero, List.getElem_cons_succ]
      have kz := HI.out.kz.below hS1 HI.out.kz.lt
      have lz := kz.lt
      have g0 := kz.frozen 0
      have g1 := kz.frozen 1
      have g2 := kz.frozen 2
      have g3 := kz.frozen 3
      have z0 := kz.cell 0
      have z1 := kz.cell 1
      have z2 := kz.cell 2
      have z3 := kz.cell 3
      simp only [List.getElem?_toArray, List.getElem?_cons_zero, List.getElem?_cons_succ] at z0 z1 z2 z3
      clear x0 x1 x2 x3 kb
      refine mix.D_op (k := 3) rfl rfl (by kernel_rfl) (fun K' hK => ?_)
      simp only [List.getElem_toArray, List.getElem_cons_zero, List.getElem_cons_succ]
      go_wp2_with fail
      refine hK.out _ _ (fun _ => hS0) ?_
      clear hK K'
      try simp only [Act.put, List.setIfInBounds_toArray, List.set_cons_zero, List.set_cons_succ]
      refine mix.D_op (k := 4) rfl rfl (by kernel_rfl) (fun K' hK => ?_)
      simp only [List.getElem_toArray, List.getElem_cons_zero, List.getElem_cons_succ]
      go_wp2_with fail
      have kz9 := (((kz.put 0 (.int .u64 (rk : Int))).put 1 (.int .i64 rg)).put 2 (.int .i64 ro)).put 3 (.int .i64 rn)
      have I := HI.out
      have K9 := four4_own hS0 (g := w.heap.size) rfl (.int .u64 (rk : Int)) (.int .i64 rg) (.int .i64 ro) (.int .i64 rn)
      have b9 := four4_below (I.below.trans (hS1.mono I.below.size)) (g := w.heap.size) (Nat.le_refl _) (.int .u64 (rk : Int)) (.int .i64 rg) (.int .i64 ro) (.int .i64 rn)
      have hp9 := (I.hp.below hS1).four (g := w.heap.size) (fun hs => Nat.lt_irrefl _ (I.lo _ hs)) (.int .u64 (rk : Int)) (.int .i64 rg) (.int .i64 ro) (.int .i64 rn)
      have row9 := ownsRow_agree (row_below I.row hS1) (w' := four4 wd w.heap.size (.int .u64 (rk : Int)) (.int .i64 rg) (.int .i64 ro) (.int .i64 rn)) (fun g hg => four4_heap _ _ _ _ _ _ _ (by have := (I.own g hg).1; omega))
      unfold four4 at b9 hp9 row9 K9
      simp only [List.setIfInBounds_toArray, List.set_cons_zero, List.set_cons_succ] at kz9
      refine hK.out _ _ (fun _ => K9) ?_
      clear hK K' K9 g0 g1 g2 g3 kz hS0
      try simp only [Act.put, List.setIfInBounds_toArray, List.set_cons_zero, List.set_cons_succ]
      generalize (((wd.setCell ⟨w.heap.size, 0, none⟩ (.int .u64 (rk : Int))).setCell ⟨w.heap.size, 1, none⟩ (.int .i64 rg)).setCell ⟨w.heap.size, 2, none⟩ (.int .i64 ro)).setCell ⟨w.heap.size, 3, none⟩ (.int .i64 rn) = wX at kz9 b9 hp9 row9 ⊢
      clear z0 z1 z2 z3
      refine mix.D_op (k := 5) rfl rfl (by kernel_rfl) (fun K' hK => ?_)
      simp only [List.getElem_toArray, List.getElem_cons_zero, List.getElem_cons_succ]
      go_wp2_with fail
      refine hK.out _ _ (fun h => by simp at h) ?_
      clear hK K'
      refine mix.D_done (by kernel_rfl) ?_ _
      go_wp2_with fail
      have z0 := kz9.cell 0
      have z1 := kz9.cell 1
      have z2 := kz9.cell 2
      have z3 := kz9.cell 3
      simp only [List.getElem?_toArray, List.getElem?_cons_zero, List.getElem?_cons_succ] at z0 z1 z2 z3
      have hln := growE_len l (l.length)
      have hmin : min l.length 50 = l.length := by omega
      obtain ⟨k9, hk9, hk9l⟩ := I.ref
      refine bodyPost_ret (v := .tuple #[.pointer (some ⟨h, 0, none⟩), .agg #[.int .u64 (rk : Int), .int .i64 rg, .int .i64 ro, .int .i64 rn], u8]) (by simp [results, Try.results27, go_sem, z0, z1, z2, z3]) rfl ⟨h, S, ns, ⟨rk, rg, ro, rn⟩, ht, u8, rfl, b9, hp9, I.lo, ?_⟩
      rw [hmin]
      exact ⟨I.root, root_h I.root (by rw [List.length_map]; omega), by rw [hk9]; exact refOf_fits2 (by have := I.nlen; omega), row9, fun g hg => ⟨(I.own g hg).1, (I.own g hg).2.1⟩, by omega, growE_inc l _, fun x hx => growE_mem _ hx⟩

end Go.Proofs.Ytchghlbiongccaa.trees
