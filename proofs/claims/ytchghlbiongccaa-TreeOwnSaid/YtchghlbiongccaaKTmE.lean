/- The law TreeOwn. -/
import Derived.Test.YtchghlbiongccaaKTmD
import Derived.Test.YtchghlbiongccaaKMix


namespace Go.Proofs.Ytchghlbiongccaa.trees
set_option linter.unusedVariables false
set_option linter.unusedSimpArgs false
open Go.RowKit Go.Proofs.Ytchghlbiongccaa.base Go.Proofs.Ytchghlbiongccaa.vers Go.Proofs.Ytchghlbiongccaa.nodes Go.Proofs.Ytchghlbiongccaa.quotas

theorem vs_of_blk {w : World} {q : Nat} {v : ByteArray} (h : Blk w q 114 #[.int .i64 1, .string v, .string ⟨#[]⟩]) (hv : v.size ≤ maxLen) : Vs w w.heap.size [vOf v] (some ⟨q, 0, none⟩) 1 :=
  ⟨Nat.le_refl _, by simp, (fun e => by cases e), Blk.rd (xs := cellsV [vOf v]) h h.lt, fun x hx => by rw [List.mem_singleton.1 hx]; exact ⟨⟨by show (-9223372036854775808 : Int) ≤ 1; decide, by show (1 : Int) ≤ 9223372036854775807; decide⟩, hv, by simp [vOf, ByteArray.size]⟩⟩
/-- where the law stands: a heap, a root in a box, the list -/
structure OI (w : World) (h rb : Nat) (S : Nat → Prop) (ns : List P3) (r : R) (ht : Nat) (L : List PE) (lt : List TO) (v : Value) (wr : World) : Prop where
  below : Below w.heap.size w wr
  hp : Hp wr h S ns
  lo : ∀ g, S g → w.heap.size ≤ g
  rbn : ¬ S rb
  kb : Blk wr rb 44 #[.int .u64 (r.k : Int), .int .i64 r.g, .int .i64 r.o, .int .i64 r.n]
  lrb : w.heap.size ≤ rb
  row : wr.ownsRow 0 84 5 v lt.length (cellsT lt)
  own : ∀ g, v.ownBlock = some g → w.heap.size ≤ g ∧ ¬ S g ∧ g ≠ rb
  fits : ∀ x ∈ lt, x.fits
  root : Root ns r ht L
  mp : Mp L lt
  ref : ∃ k, r = refOf k ∧ k < ns.length
/-- at the loop's head -/
def OH (w : World) (m h rb : Nat) (i v : Value) (wr : World) : Prop :=
  ∃ (j : Nat) (S : Nat → Prop) (ns : List P3) (r : R) (ht : Nat) (L : List PE) (lt : List TO), j ≤ m ∧ i = .int .i64 (j : Int) ∧ OI w h rb S ns r ht L lt v wr ∧ lt.length ≤ j ∧ ns.length ≤ 1 + 17 * j
theorem OI.shown {w : World} {h rb : Nat} {S : Nat → Prop} {ns : List P3} {r : R} {ht : Nat} {L : List PE} {lt : List TO} {v : Value} {wr : World} (I : OI w h rb S ns r ht L lt v wr) (hl : lt.length ≤ 50) (hn : ns.length ≤ 100000) : Shown wr h S ns r ht L :=
  ⟨I.hp, I.root, root_h I.root (by rw [← I.mp.len]; exact hl), by obtain ⟨k, rfl, hk⟩ := I.ref; exact refOf_fits2 (by omega), by rw [← I.mp.len]; exact hl⟩

set_option maxRecDepth 100000 in
set_option maxHeartbeats 16000000 in
theorem law_treeOwn (l : List TO) (A : Option Addr) (c : Nat) (w : World) (hT : Tos w w.heap.size l A c) :
    Calls Try.prog 14 #[.slice A l.length c] w fun e w' => e = .returned (.bool true) ∧ Below w.heap.size w w' := by
  have hn := newHeap_any w
  go_enter Try.func14, Try.ntmps14
  go_wp2_with fail
  refine hn.mono ?_
  rintro e w1 ⟨h, rfl, hh, hH, hb1⟩
  have he := empty_ok h (fun g => g = h) [] w1 hH (by simp)
  simp only [List.nil_append, List.length_nil] at he
  obtain ⟨rr, hrr⟩ : ∃ rr, rr = refOf 0 := ⟨_, rfl⟩
  rw [← hrr] at he
  have HRR := vers.lay hrr
  clear hrr hn
  obtain ⟨rk, rg, ro, rn⟩ := rr
  go_wp2_with fail
  refine he.mono ?_
  rintro e w2 ⟨S', rfl, hH2, hS2, hK2⟩
  clear he
  have b2 : Below w.heap.size w w2 := hb1.trans (hK2.below (fun g hg => by omega) hb1.size)
  have lo2 : ∀ g, S' g → w.heap.size ≤ g := fun g hg => by rcases hS2 g hg with h1 | h1 <;> (have := hb1.size; omega)
  have b3 : Below w2.heap.size w2 (w2.alloc (.cells #[.int .u64 (rk : Int), .int .i64 rg, .int .i64 ro, .int .i64 rn] 44)) := (Below.refl _ _).alloc (Nat.le_refl _) _
  have kb3 := Blk.new w2 44 #[.int .u64 (rk : Int), .int .i64 rg, .int .i64 ro, .int .i64 rn]
  have b30 := b2.trans (b3.mono b2.size)
  have hI0 : OI w h w2.heap.size S' [(true, [], [])] ⟨rk, rg, ro, rn⟩ 0 [] [] (.slice none 0 0) (w2.alloc (.cells #[.int .u64 (rk : Int), .int .i64 rg, .int .i64 ro, .int .i64 rn] 44)) :=
    ⟨b30, hH2.below b3, lo2, fun hs => Nat.lt_irrefl _ (hH2.lt _ hs), kb3, b2.size, ⟨rfl, .inl ⟨rfl, rfl⟩⟩, (fun g hg => by cases hg), (fun x hx => by cases hx), by rw [HRR.out]; exact Root.empty [], Mp.nil, ⟨0, HRR.out, by simp⟩⟩
  have hshr := shortT_any l A c 20 (by omega) (w2.alloc (.cells #[.int .u64 (rk : Int), .int .i64 rg, .int .i64 ro, .int .i64 rn] 44)) (hT.at_world b30)
  have hlm : (l.take 20).length ≤ 20 := by rw [List.length_take]; omega
  have hX := hT.take (k := (l.take 20).length) (by rw [List.length_take]; omega)
  rw [show l.take (l.take 20).length = l.take 20 by rw [List.length_take]; rcases Nat.lt_or_ge l.length 20 with h9 | h9; (rw [Nat.min_eq_right (by omega), List.take_of_length_le (Nat.le_refl _), List.take_of_length_le (by omega)]); (rw [Nat.min_eq_left h9])] at hX
  rw [show ((20 : Nat) : Int) = 20 from rfl] at hshr
  generalize l.take 20 = lm at *
  clear hT hH2 hS2 hK2 b2 b3 b30 lo2 kb3 hb1 hh hH
  generalize hW3 : w2.alloc (.cells #[.int .u64 (rk : Int), .int .i64 rg, .int .i64 ro, .int .i64 rn] 44) = W3 at *
  go_wp2_with fail
  refine hshr.mono ?_
  rintro e wsh ⟨rfl, rfl⟩
  clear hshr
  generalize w2.heap.size = rb at *
  go_wp2_with fail
  go_loopw [36, 6] (OH w lm.length h rb) (fun i _ _ => lm.length - (intOf i).toNat)
  case atStart => exact ⟨0, S', _, _, 0, [], [], Nat.zero_le _, rfl, hI0, Nat.le_refl _, by simp⟩
  case round =>
    clear hI0 HRR
    obtain ⟨j, S, ns, r, ht, L, lt, hj, rfl, hI, hltj, hnsj⟩ := hrel
    by_cases hlt : j < lm.length
    ·
      have hxm := hX.take (k := j + 1)
      obtain ⟨bk, off, rfl, hbk, x0, x1, x2, x3, x4⟩ := (hX.below hI.below).at_ hlt
      have hfx := hX.2.2.2.2 _ (List.getElem_mem hlt)
      have HJM := vers.lay (show j + 1 ≤ lm.length from hlt)
      have HXS := vers.lay hX
      clear hX hxm
      generalize lm[j] = x at x0 x1 x2 x3 x4 hfx
      obtain ⟨xk, xn, xv, xA, xm, xc, xb⟩ := x
      simp only [] at x0 x1 x2 x3 x4
      have hfn : xn.size ≤ maxLen := hfx.1
      have hfv : xv.size ≤ maxLen := hfx.2
      have HFX := vers.lay hfx
      clear hfx
      have hsh := hI.shown (by omega) (by omega)
      have hht := hsh.low
      have hfit := hsh.fits
      obtain ⟨way, leaf, m, r', h', hd, hwl, hIl, hat, hll, hput, hroot, hh', hml, href⟩ := put_root hI.root (xn, [vOf xv]) hI.mp.inc (by omega)
      have HMP := vers.lay (hI.mp.put ⟨xk, xn, xv, xA, xm, xc, xb⟩)
      have HROOT := vers.lay hroot
      have HREF := vers.lay href
      have HML := vers.lay (show (ns ++ m).length ≤ 1 + 17 * (j + 1) by rw [List.length_append]; omega)
      have hLl : (withP L (xn, [vOf xv])).length ≤ 50 := by have := (withP_len L (xn, [vOf xv])).2.1; rw [← hI.mp.len] at this; omega
      have HHT := vers.lay (⟨root_h hroot hLl, by obtain ⟨k, rfl, hk⟩ := href; exact refOf_fits2 (by have := HML.out; omega), hLl⟩ : h' ≤ 4 ∧ r'.fits ∧ _)
      have bX : Below wr.heap.size wr (wr.alloc (.cells #[.int .i64 xk, .string xn, .string xv, .slice xA xm xc, .int .i64 xb] 84)) := (Below.refl _ _).alloc (Nat.le_refl _) _
      have kX := Blk.new wr 84 #[.int .i64 xk, .string xn, .string xv, .slice xA xm xc, .int .i64 xb]
      have zwr := hI.below.size
      have hsec := secret_any ⟨xk, xn, xv, xA, xm, xc, xb⟩ (wr.alloc (.cells #[.int .i64 xk, .string xn, .string xv, .slice xA xm xc, .int .i64 xb] 84))
      have HI := vers.lay hI
      have kbX := hI.kb.below bX hI.kb.lt
      have hpX := hI.hp.below bX
      have lrbw := hI.kb.lt
      obtain ⟨Av, cv, rfl, hv1, hv2, hv3⟩ := row_rdF hI.row
      have HSL := vers.lay hI.hp.lt
      clear hI hsh hroot href hLl
      have sX : wr.heap.size < (wr.alloc (.cells #[.int .i64 xk, .string xn, .string xv, .slice xA xm xc, .int .i64 xb] 84)).heap.size := by simp
      obtain ⟨rk, rg, ro, rn⟩ := r
      obtain ⟨rk', rg', ro', rn'⟩ := r'
      generalize hWX : wr.alloc (.cells #[.int .i64 xk, .string xn, .string xv, .slice xA xm xc, .int .i64 xb] 84) = WX at *
      have q0 := kX.cell 0
      have q1 := kX.cell 1
      have q2 := kX.cell 2
      have q3 := kX.cell 3
      have q4 := kX.cell 4
      simp only [List.getElem?_toArray, List.getElem?_cons_zero, List.getElem?_cons_succ] at q0 q1 q2 q3 q4
      have lX := kX.lt
      go_wp2_with fail
      refine hsec.mono ?_
      rintro e w1 ⟨q, rfl, hq, hkq, hb1⟩
      clear hsec q0 q1 q2 q3 q4 x0 x1 x2 x3 x4
      have bE : Below w1.heap.size w1 (w1.alloc (.cells #[.string xn, .slice (some ⟨q, 0, none⟩) 1 1] 58)) := (Below.refl _ _).alloc (Nat.le_refl _) _
      have kE := Blk.new w1 58 #[.string xn, .slice (some ⟨q, 0, none⟩) 1 1]
      have hbE := hb1.trans (bE.mono hb1.size)
      have hql := hkq.lt
      have hkqE := hkq.below bE hkq.lt
      have kbE := kbX.below hbE kbX.lt
      have kXE := kX.below hbE lX
      have hpE := hpX.below hbE
      have hs1 := hb1.size
      have sE : w1.heap.size < (w1.alloc (.cells #[.string xn, .slice (some ⟨q, 0, none⟩) 1 1] 58)).heap.size := by simp
      have hvs := vs_of_blk hkqE hfv
      have hputc := put_ok h S ns ⟨rk, rg, ro, rn⟩ xn [vOf xv] (some ⟨q, 0, none⟩) 1 way leaf _ hpE hfit hvs hfn hd hIl (by omega) hat hll (by omega)
      rw [hput] at hputc
      simp only [List.length_singleton] at hputc
      clear hput hd hIl hat hll hvs hwl hh' hml hpE hpX hkq kbX
      generalize hWE : w1.alloc (.cells #[.string xn, .slice (some ⟨q, 0, none⟩) 1 1] 58) = WE at *
      have b0 := kbE.cell 0
      have b1 := kbE.cell 1
      have b2 := kbE.cell 2
      have b3 := kbE.cell 3
      simp only [List.getElem?_toArray, List.getElem?_cons_zero, List.getElem?_cons_succ] at b0 b1 b2 b3
      have e0 := kE.cell 0
      have e1 := kE.cell 1
      simp only [List.getElem?_toArray, List.getElem?_cons_zero, List.getElem?_cons_succ] at e0 e1
      have lE := kE.lt
      have lbE := kbE.lt
      go_wp2_with fail
      refine hputc.mono ?_
      rintro e w3 ⟨S', rfl, hH3, hS3, hK3⟩
      clear hputc b0 b1 b2 b3 e0 e1
      have nSb : ¬ S rb := HI.out.rbn
      have nSq : ¬ S q := fun hs => by have := HSL.out _ hs; omega
      have nSx : ¬ S wr.heap.size := fun hs => by have := HSL.out _ hs; omega
      have nSe : ¬ S w1.heap.size := fun hs => by have := HSL.out _ hs; omega
      have kb3 := hK3.blk kbE nSb
      have kq3 := hK3.blk hkqE nSq
      have kX3 := hK3.blk kXE nSx
      have kE3 := hK3.blk kE nSe
      have bXE := bX.trans (hbE.mono bX.size)
      have row3 := ownsRow_agree (row_below HI.out.row bXE) (w' := w3) (fun g hg => hK3.block g (by have := (HI.out.row.lt g hg).2; omega) (HI.out.own g hg).2.1)
      have zK3 := hK3.size
      have bw3 : Below w.heap.size w w3 := (HI.out.below.trans (bXE.mono zwr)).trans (hK3.below (fun g hg => HI.out.lo g hg) (by have := bXE.size; omega))
      have bR : Below w3.heap.size w3 (w3.alloc (.cells #[.int .u64 (rk' : Int), .int .i64 rg', .int .i64 ro', .int .i64 rn'] 44)) := (Below.refl _ _).alloc (Nat.le_refl _) _
      have kR := Blk.new w3 44 #[.int .u64 (rk' : Int), .int .i64 rg', .int .i64 ro', .int .i64 rn']
      have kb4 := kb3.below bR kb3.lt
      have kq4 := kq3.below bR kq3.lt
      have kX4 := kX3.below bR kX3.lt
      have kE4 := kE3.below bR kE3.lt
      have row4 := row_below row3 bR
      have hH4 := hH3.below bR
      have bw4 := bw3.trans (bR.mono bw3.size)
      have s4 : (w3.alloc (.cells #[.int .u64 (rk' : Int), .int .i64 rg', .int .i64 ro', .int .i64 rn'] 44)).heap.size = w3.heap.size + 1 := by simp
      generalize hW4 : w3.alloc (.cells #[.int .u64 (rk' : Int), .int .i64 rg', .int .i64 ro', .int .i64 rn'] 44) = w4 at *
      have S4 := vers.lay s4
      clear s4 kb3 kq3 kX3 kE3 row3
      have e0 := kE4.cell 0
      have e1 := kE4.cell 1
      simp only [List.getElem?_toArray, List.getElem?_cons_zero, List.getElem?_cons_succ] at e0 e1
      have f0 := kq4.cell 0
      have f1 := kq4.cell 1
      have f2 := kq4.cell 2
      simp only [List.getElem?_toArray, List.getElem?_cons_zero, List.getElem?_cons_succ] at f0 f1 f2
      have b0 := kb4.cell 0
      have b1 := kb4.cell 1
      have b2 := kb4.cell 2
      have b3 := kb4.cell 3
      simp only [List.getElem?_toArray, List.getElem?_cons_zero, List.getElem?_cons_succ] at b0 b1 b2 b3
      have c0 := kR.cell 0
      have c1 := kR.cell 1
      have c2 := kR.cell 2
      have c3 := kR.cell 3
      simp only [List.getElem?_toArray, List.getElem?_cons_zero, List.getElem?_cons_succ] at c0 c1 c2 c3
      have g1 := kq4.frozen 1
      have d0 := kb4.frozen 0
      have d1 := kb4.frozen 1
      have d2 := kb4.frozen 2
      have d3 := kb4.frozen 3
      have lE4 := kE4.lt
      have lq4 := kq4.lt
      have lb4 := kb4.lt
      have lR := kR.lt
      have nrq : rb ≠ q := by omega
      have n3q : w3.heap.size ≠ q := by omega
      have nEq : w1.heap.size ≠ q := by omega
      go_upto_region 17 with (fail)
      have HKQ := vers.lay kq4
      have kR5 := kR.far (p := ⟨q, 1, none⟩) n3q (.string ⟨#[115, 112, 111, 105, 108, 116]⟩)
      have kb5 := (((((kb4.far (p := ⟨q, 1, none⟩) nrq (.string ⟨#[115, 112, 111, 105, 108, 116]⟩)).put 0 (.int .u64 (rk' : Int))).put 1 (.int .i64 rg')).put 2 (.int .i64 ro')).put 3 (.int .i64 rn'))
      simp only [List.setIfInBounds_toArray, List.set_cons_zero, List.set_cons_succ] at kb5
      have hone : ∀ k, k ≠ q → (w4.setCell ⟨q, 1, none⟩ (.string ⟨#[115, 112, 111, 105, 108, 116]⟩)).heap[k]? = w4.heap[k]? := fun k hk => Below.heap_setCell _ _ _ _ (by simpa using hk)
      have hfour := fun k (hk : k ≠ rb) => four4_heap (w4.setCell ⟨q, 1, none⟩ (.string ⟨#[115, 112, 111, 105, 108, 116]⟩)) rb (.int .u64 (rk' : Int)) (.int .i64 rg') (.int .i64 ro') (.int .i64 rn') k hk
      have hfsz := four4_size (w4.setCell ⟨q, 1, none⟩ (.string ⟨#[115, 112, 111, 105, 108, 116]⟩)) rb (.int .u64 (rk' : Int)) (.int .i64 rg') (.int .i64 ro') (.int .i64 rn')
      rw [World.size_setCell] at hfsz
      have bw5 := four4_below (bw4.setCell (p := ⟨q, 1, none⟩) (by show _ ≤ q; omega) (.string ⟨#[115, 112, 111, 105, 108, 116]⟩)) (g := rb) HI.out.lrb (.int .u64 (rk' : Int)) (.int .i64 rg') (.int .i64 ro') (.int .i64 rn')
      have nS'b : ¬ S' rb := fun hs => by rcases hS3 _ hs with h9 | h9; exact nSb h9; omega
      have nS'q : ¬ S' q := fun hs => by rcases hS3 _ hs with h9 | h9; exact nSq h9; omega
      have hp5 : Hp (w4.setCell ⟨q, 1, none⟩ (.string ⟨#[115, 112, 111, 105, 108, 116]⟩)) h S' (ns ++ m) := hH4.agree (fun g hg => hone g (fun e => nS'q (e ▸ hg))) (by rw [World.size_setCell]; exact Nat.le_refl _)
      have hHp6 := hp5.four nS'b (.int .u64 (rk' : Int)) (.int .i64 rg') (.int .i64 ro') (.int .i64 rn')
      have row5 := ownsRow_agree row4 (w' := four4 (w4.setCell ⟨q, 1, none⟩ (.string ⟨#[115, 112, 111, 105, 108, 116]⟩)) rb (.int .u64 (rk' : Int)) (.int .i64 rg') (.int .i64 ro') (.int .i64 rn')) (fun g hg => (hfour g (HI.out.own g hg).2.2).trans (hone g (by have := (HI.out.row.lt g hg).2; omega)))
      have kX6 : Blk (four4 (w4.setCell ⟨q, 1, none⟩ (.string ⟨#[115, 112, 111, 105, 108, 116]⟩)) rb (.int .u64 (rk' : Int)) (.int .i64 rg') (.int .i64 ro') (.int .i64 rn')) wr.heap.size 84 #[.int .i64 xk, .string xn, .string xv, .slice xA xm xc, .int .i64 xb] := ((hfour _ (by omega)).trans (hone _ (by omega))).trans kX4
      unfold four4 at hfsz bw5 hHp6 row5 kX6
      clear hone hfour hp5 b0 b1 b2 b3 c0 c1 c2 c3 d0 d1 d2 d3 e0 e1 f0 f1 f2 g1 kb4 kq4 kX4 kE4 row4 kR kR5
      generalize ((((w4.setCell ⟨q, 1, none⟩ (.string ⟨#[115, 112, 111, 105, 108, 116]⟩)).setCell ⟨rb, 0, none⟩ (.int .u64 (rk' : Int))).setCell ⟨rb, 1, none⟩ (.int .i64 rg')).setCell ⟨rb, 2, none⟩ (.int .i64 ro')).setCell ⟨rb, 3, none⟩ (.int .i64 rn') = w6 at hfsz bw5 hHp6 row5 kX6 kb5 ⊢
      have kb6 := kb5
      have HB6 := vers.lay bw5
      have HLO := vers.lay (⟨fun g hs => (hS3 g hs).elim (fun h9 => HI.out.lo g h9) (fun h9 => by omega), nS'b⟩ : (∀ g, S' g → w.heap.size ≤ g) ∧ ¬ S' rb)
      have HSL6 := vers.lay hHp6.lt
      obtain ⟨A7, c7, e7, hw1, hw2, hw3⟩ := row_rdF row5
      injection e7 with e7 _ e8
      subst e7 e8
      have hTl : Tos w6 w6.heap.size lt Av cv := ⟨hw1, by omega, hw2, hw3.rd, HI.out.fits⟩
      clear hw1 hw2 hw3 row5 bw5 lb4 lq4 lR lE4 S4 hfsz
      generalize wr.heap.size = bx at *
      have ax0 := kX6.cell 0
      have ax1 := kX6.cell 1
      have ax2 := kX6.cell 2
      have ax3 := kX6.cell 3
      have ax4 := kX6.cell 4
      simp only [List.getElem?_toArray, List.getElem?_cons_zero, List.getElem?_cons_succ] at ax0 ax1 ax2 ax3 ax4
      have axl := kX6.lt
      have hwo := fun wx (hb : Below w6.heap.size w6 wx) => without_any lt Av cv xn wx (hTl.at_world hb) (by omega)
      have hS0 : Below w6.heap.size w6 w6.drew := (Below.refl _ _).drew
      refine mix.region_D (fun w' => Below w6.heap.size w6 w') (fun j => j == 7) (by kernel_rfl) ?_
      generalize w6.drew = wd at hS0 ⊢
      refine mix.D_takeT (i := 0) (v := ?_) rfl (by kernel_rfl) (by kernel_rfl) (fun _ _ _ h => h) (Or.inl ⟨by rfl, ?_⟩) hS0 ?_
      rotate_left
      · intro w' hSw
        try simp only [List.getElem_toArray, List.getElem_cons_zero, List.getElem_cons_succ]
        go_simp
        exact rfl
      try simp only [Act.put, List.setIfInBounds_toArray, List.set_cons_zero, List.set_cons_succ, List.getElem_toArray, List.getElem_cons_zero, List.getElem_cons_succ]
      refine mix.D_takeT (i := 1) (v := ?_) rfl (by kernel_rfl) (by kernel_rfl) (fun _ _ _ h => h) (Or.inl ⟨by rfl, ?_⟩) hS0 ?_
      rotate_left
      · intro w' hSw
        try simp only [List.getElem_toArray, List.getElem_cons_zero, List.getElem_cons_succ]
        go_simp
        exact rfl
      try simp only [Act.put, List.setIfInBounds_toArray, List.set_cons_zero, List.set_cons_succ, List.getElem_toArray, List.getElem_cons_zero, List.getElem_cons_succ]
      refine mix.D_takeT (i := 2) (v := ?_) rfl (by kernel_rfl) (by kernel_rfl) (fun _ _ _ h => h) (Or.inl ⟨by rfl, ?_⟩) hS0 ?_
      rotate_left
      · intro w' hSw
        have y1 := (hSw.cell (p := ⟨bx, 1, none⟩) axl).trans ax1
        try simp only [List.getElem_toArray, List.getElem_cons_zero, List.getElem_cons_succ]
        go_simp
        exact rfl
      try simp only [Act.put, List.setIfInBounds_toArray, List.set_cons_zero, List.set_cons_succ, List.getElem_toArray, List.getElem_cons_zero, List.getElem_cons_succ]
      refine mix.D_takeT (i := 4) (v := ?_) rfl (by kernel_rfl) (by kernel_rfl) (fun _ _ _ h => h) (Or.inl ⟨by rfl, ?_⟩) hS0 ?_
      rotate_left
      · intro w' hSw
        have y0 := (hSw.cell (p := ⟨bx, 0, none⟩) axl).trans ax0
        have y1 := (hSw.cell (p := ⟨bx, 1, none⟩) axl).trans ax1
        have y2 := (hSw.cell (p := ⟨bx, 2, none⟩) axl).trans ax2
        have y3 := (hSw.cell (p := ⟨bx, 3, none⟩) axl).trans ax3
        have y4 := (hSw.cell (p := ⟨bx, 4, none⟩) axl).trans ax4
        try simp only [List.getElem_toArray, List.getElem_cons_zero, List.getElem_cons_succ]
        go_simp
        exact rfl
      try simp only [Act.put, List.setIfInBounds_toArray, List.set_cons_zero, List.set_cons_succ, List.getElem_toArray, List.getElem_cons_zero, List.getElem_cons_succ]
      refine mix.D_two (k := 3) (j := 5) rfl rfl rfl rfl (by kernel_rfl) (fun K' hK => ?_) (fun K' hK => ?_)
      · simp only [List.getElem_toArray, List.getElem_cons_zero, List.getElem_cons_succ]
        go_wp2_with fail
        refine (hwo _ hS0).mono ?_
        rintro e wa ⟨vw, rfl, htw, hba⟩
        have hbA : Below w6.heap.size w6 wa := hS0.trans (hba.mono hS0.size)
        refine hK.out _ _ (fun _ => hbA) ?_
        clear hK K'
        try simp only [Act.put, List.setIfInBounds_toArray, List.set_cons_zero, List.set_cons_succ, List.getElem_toArray, List.getElem_cons_zero, List.getElem_cons_succ]
        refine mix.D_op (k := 5) rfl rfl (by kernel_rfl) (fun K' hK => ?_)
        simp only [List.getElem_toArray, List.getElem_cons_zero, List.getElem_cons_succ]
        go_wp2_with fail
        have bq : Below wa.heap.size wa (wa.alloc (.cells #[.int .i64 xk, .string xn, .string xv, .slice xA xm xc, .int .i64 xb] 84)) := (Below.refl _ _).alloc (Nat.le_refl _) _
        have kq := Blk.new wa 84 #[.int .i64 xk, .string xn, .string xv, .slice xA xm xc, .int .i64 xb]
        have hbQ : Below w6.heap.size w6 (wa.alloc (.cells #[.int .i64 xk, .string xn, .string xv, .slice xA xm xc, .int .i64 xb] 84)) := hbA.trans (bq.mono hbA.size)
        have lq : wa.heap.size < (wa.alloc (.cells #[.int .i64 xk, .string xn, .string xv, .slice xA xm xc, .int .i64 xb] 84)).heap.size := by simp
        generalize wa.alloc (.cells #[.int .i64 xk, .string xn, .string xv, .slice xA xm xc, .int .i64 xb] 84) = wq at bq kq hbQ lq ⊢
        have hrq := row_below htw.1 bq
        refine hK.out _ _ (fun _ => hbQ) ?_
        clear hK K'
        try simp only [Act.put, List.setIfInBounds_toArray, List.set_cons_zero, List.set_cons_succ, List.getElem_toArray, List.getElem_cons_zero, List.getElem_cons_succ]
        refine mix.D_op (k := 6) rfl rfl (by kernel_rfl) (fun K' hK => ?_)
        simp only [List.getElem_toArray, List.getElem_cons_zero, List.getElem_cons_succ]
        obtain ⟨i0, hi0, hz0, hz1, hz2⟩ := info_parts infoOp
        refine wp_bulk2 Try.underlying81 hi0 hz0 hz1 hz2 rfl (by decide) (.tmp 60) (.tmp 62) rfl hrq rfl (m := 1) (ys := (⟨xk, xn, xv, xA, xm, xc, xb⟩ : TO).cells) rfl (Blk.rd (xs := (⟨xk, xn, xv, xA, xm, xc, xb⟩ : TO).cells) kq lq) (fun h => by cases h) (Nat.le_refl _) (by intro u hu; simp [TO.cells] at hu; rcases hu with rfl | rfl | rfl | rfl | rfl <;> rfl) rfl (by have := woT_le lt xn; omega) (by have := woT_le lt xn; unfold maxLen; omega) ?_
        intro v9 w9 ho9 hk9 hv9
        have hb9 : Below w6.heap.size w6 w9 := hbQ.trans (hk9.below (fun g hg => (fun g hg => Nat.le_trans hS0.size (htw.2.1 g hg)) g hg) hbQ.size)
        refine hK.out _ _ (fun _ => hb9) ?_
        clear hK K'
        try simp only [Act.put, List.setIfInBounds_toArray, List.set_cons_zero, List.set_cons_succ, List.getElem_toArray, List.getElem_cons_zero, List.getElem_cons_succ]
        refine mix.D_op (k := 7) rfl rfl (by kernel_rfl) (fun K' hK => ?_)
        simp only [List.getElem_toArray, List.getElem_cons_zero, List.getElem_cons_succ]
        go_wp2_with fail
        refine hK.out _ _ (fun h => by simp at h) ?_
        clear hK K'
        refine mix.D_done (by kernel_rfl) ?_ _
        have hv9' : ∀ g, v9.ownBlock = some g → w6.heap.size ≤ g := fun g hg => (hv9 g hg).elim (fun h => (fun g hg => Nat.le_trans hS0.size (htw.2.1 g hg)) g h) (fun h => Nat.le_trans hbQ.size h.1)
        have ho9' : w9.ownsRow 0 84 5 v9 (woT lt xn ++ [(⟨xk, xn, xv, xA, xm, xc, xb⟩ : TO)]).length (cellsT (woT lt xn ++ [(⟨xk, xn, xv, xA, xm, xc, xb⟩ : TO)])) := by rw [List.length_append, cellsT_app]; exact ho9
        clear hv9 ho9 hk9
        have hrow9 := ho9'
        have hp9 := hHp6.below hb9
        have kb9 := kb6.below hb9 kb6.lt
        have kX9 := kX6.below hb9 kX6.lt
        have zz9 := hb9.size
        obtain ⟨A9, c9, rfl, hv1, hv2, hv3⟩ := row_rdF ho9'
        have z0 := kb9.cell 0
        have z1 := kb9.cell 1
        have z2 := kb9.cell 2
        have z3 := kb9.cell 3
        have q1 := kX9.cell 1
        simp only [List.getElem?_toArray, List.getElem?_cons_zero, List.getElem?_cons_succ] at z0 z1 z2 z3 q1
        have lb9 := kb9.lt
        have lX9 := kX9.lt
        have hSh9 : Shown w9 h S' (ns ++ m) ⟨rk', rg', ro', rn'⟩ h' (withP L (xn, [vOf xv])) := ⟨hp9, HROOT.out, HHT.out.1, HHT.out.2.1, HHT.out.2.2⟩
        have hcall := get_ok h S' (ns ++ m) ⟨rk', rg', ro', rn'⟩ h' (withP L (xn, [vOf xv])) xn w9 hSh9 HMP.out.inc
        go_wp2_with fail
        refine hcall.mono ?_
        rintro e wg ⟨hbg, y, bb, rfl, hy, hOy, hys⟩
        obtain ⟨rfl, hyn, hyl⟩ := HMP.out.got (o := ⟨xk, xn, xv, xA, xm, xc, xb⟩) (List.mem_append_right _ (List.mem_singleton_self _)) hy
        clear hcall hSh9 hy z0 z1 z2 z3 q1
        obtain ⟨ys, yl, yA, yc⟩ := y
        simp only [] at hyn hyl hys
        subst hyl
        have hyn' := hyn.symm
        clear hyn
        subst hyn'
        have hri := RowI.of (lo := w9.heap.size) (hi := wg.heap.size) hOy.1 hOy.2.2.2
        clear hOy
        simp only [List.length_singleton] at hri ⊢
        have hszg := hbg.size
        have bE : Below wg.heap.size wg (wg.alloc (.cells #[.string xn, .slice yA 1 yc] 58)) := (Below.refl _ _).alloc (Nat.le_refl _) _
        have kE := Blk.new wg 58 #[.string xn, .slice yA 1 yc]
        have hriE := hri.below bE
        obtain ⟨gy, csy, rfl, hgy, hky, hcy⟩ := hriE.resolve_left (by decide)
        have hbE := hbg.trans (bE.mono hbg.size)
        have hpE := hp9.below hbE
        have kbE := kb9.below hbE kb9.lt
        have rowE := row_below hrow9 hbE
        have hlt9 := fun g hg => (hrow9.lt g hg).2
        have sE : wg.heap.size < (wg.alloc (.cells #[.string xn, .slice (some ⟨gy, 0, none⟩) 1 yc] 58)).heap.size := by simp
        generalize hWE : wg.alloc (.cells #[.string xn, .slice (some ⟨gy, 0, none⟩) 1 yc] 58) = WE at *
        have e1 := kE.cell 1
        simp only [List.getElem?_toArray, List.getElem?_cons_zero, List.getElem?_cons_succ] at e1
        have lE := kE.lt
        have hlb9 := kb9.lt
        have hS9 := hp9.lt
        have HRW := vers.lay rowE
        have HL9 := vers.lay hlt9
        have HV9 := vers.lay hv9'
        have HPE := vers.lay hpE
        have HS9 := vers.lay hS9
        clear hrow9 rowE hlt9 hv9' hv1 hv2 hv3 ho9' hri hriE hpE hS9
        go_wp2_with fail
        clear e1
        go_loopw [77] (fun i wi => ∃ k : Nat, k ≤ 1 ∧ i = .int .i64 (k : Int) ∧ Keep (fun g => g = gy) WE wi ∧ ∃ cs, Blk wi gy 114 cs ∧ 3 ≤ cs.size) (fun i _ => 1 - (intOf i).toNat)
        case atStart => exact ⟨0, Nat.zero_le _, rfl, Keep.refl _ _, csy, hky, hcy⟩
        case round =>
          clear hky hcy
          obtain ⟨k, hk, rfl, hki, cs, hkv, hcv⟩ := hrel
          have kEi := hki.blk kE (by omega)
          have e1 := kEi.cell 1
          simp only [List.getElem?_toArray, List.getElem?_cons_zero, List.getElem?_cons_succ] at e1
          have lEi := kEi.lt
          have lgy := hkv.lt
          by_cases hlk : k < 1
          · have hkz : k = 0 := by omega
            have fV := hkv.frozen (k * 3 + 1)
            have cV : ∃ u, wr.cell? ⟨gy, k * 3 + 1, none⟩ = some u := ⟨cs[k * 3 + 1]'(by omega), by rw [hkv.cell]; exact Array.getElem?_eq_getElem (by omega)⟩
            obtain ⟨uV, cV⟩ := cV
            have hK9 := keep_set hki (b := gy) rfl (k * 3 + 1) (.string ⟨#[115, 112, 111, 105, 108, 116, 32, 116, 111, 111]⟩)
            have hk9 := hkv.put (k * 3 + 1) (.string ⟨#[115, 112, 111, 105, 108, 116, 32, 116, 111, 111]⟩)
            have HKZ := vers.lay hkz
            clear hkz hkv
            go_wp2_with fail
            exact ⟨⟨k + 1, hlk, by go_num, hK9, _, hk9, by simpa using hcv⟩, by first | (simp [intOf]; done) | (simp [intOf]; omega) | omega⟩
          · obtain rfl : k = 1 := by omega
            have hnS : ∀ g, S' g → g ≠ gy := fun g hg => by have := HS9.out g hg; omega
            have hbz : Below w.heap.size w wr := (HB6.out.trans ((hb9.trans (hbE.mono zz9)).mono HB6.out.size)).trans (hki.below (fun g hg => by have := HB6.out.size; omega) (by have := HB6.out.size; have := hbE.size; omega))
            have hEk := hki.size
            have hlE9 := hbE.size
            have hI : OI w h rb S' (ns ++ m) ⟨rk', rg', ro', rn'⟩ h' (withP L (xn, [vOf xv])) (woT lt xn ++ [⟨xk, xn, xv, xA, xm, xc, xb⟩]) (.slice A9 (woT lt xn ++ [(⟨xk, xn, xv, xA, xm, xc, xb⟩ : TO)]).length c9) wr :=
              ⟨hbz, HPE.out.agree (fun g hg => hki.block g (by have := HS9.out g hg; omega) (hnS g hg)) hEk, HLO.out.1, HLO.out.2, hki.blk kbE (by omega), HI.out.lrb, ownsRow_agree HRW.out (fun g hg => hki.block g (by have := HL9.out g hg; omega) (by have := HL9.out g hg; omega)), fun g hg => ⟨by have := HV9.out g hg; have := HB6.out.size; omega, fun hs => by have := HV9.out g hg; have := HSL6.out g hs; omega, by have := HV9.out g hg; have := kb6.lt; omega⟩, fun x hx => (List.mem_append.1 hx).elim (fun h9 => HI.out.fits x (woT_mem.1 h9).1) (fun h9 => by rw [List.mem_singleton.1 h9]; exact HFX.out), HROOT.out, HMP.out, HREF.out⟩
            have hlast : (woT lt xn ++ [(⟨xk, xn, xv, xA, xm, xc, xb⟩ : TO)]).length ≤ j + 1 := by rw [List.length_append, List.length_singleton]; have := woT_le lt xn; omega
            have HI9 := vers.lay hI
            have HLA := vers.lay hlast
            clear hI hlast
            go_wp2_with fail
            refine ⟨⟨j + 1, S', ns ++ m, ⟨rk', rg', ro', rn'⟩, h', _, _, HJM.out, by go_num, HI9.out, HLA.out, HML.out⟩, by first | (simp [intOf]; done) | (simp [intOf]; omega) | (have := HJM.out; simp [intOf]; omega) | omega⟩
      · simp only [List.getElem_toArray, List.getElem_cons_zero, List.getElem_cons_succ]
        go_wp2_with fail
        have bq : Below wd.heap.size wd (wd.alloc (.cells #[.int .i64 xk, .string xn, .string xv, .slice xA xm xc, .int .i64 xb] 84)) := (Below.refl _ _).alloc (Nat.le_refl _) _
        have kq := Blk.new wd 84 #[.int .i64 xk, .string xn, .string xv, .slice xA xm xc, .int .i64 xb]
        have hbQ : Below w6.heap.size w6 (wd.alloc (.cells #[.int .i64 xk, .string xn, .string xv, .slice xA xm xc, .int .i64 xb] 84)) := hS0.trans (bq.mono hS0.size)
        have lq : wd.heap.size < (wd.alloc (.cells #[.int .i64 xk, .string xn, .string xv, .slice xA xm xc, .int .i64 xb] 84)).heap.size := by simp
        generalize wd.alloc (.cells #[.int .i64 xk, .string xn, .string xv, .slice xA xm xc, .int .i64 xb] 84) = wq at bq kq hbQ lq ⊢
        refine hK.out _ _ (fun _ => hbQ) ?_
        clear hK K'
        try simp only [Act.put, List.setIfInBounds_toArray, List.set_cons_zero, List.set_cons_succ, List.getElem_toArray, List.getElem_cons_zero, List.getElem_cons_succ]
        refine mix.D_op (k := 3) rfl rfl (by kernel_rfl) (fun K' hK => ?_)
        simp only [List.getElem_toArray, List.getElem_cons_zero, List.getElem_cons_succ]
        go_wp2_with fail
        refine (hwo _ hbQ).mono ?_
        rintro e wa ⟨vw, rfl, htw, hba⟩
        have hbA : Below w6.heap.size w6 wa := hbQ.trans (hba.mono hbQ.size)
        have kqa := kq.below hba lq
        refine hK.out _ _ (fun _ => hbA) ?_
        clear hK K'
        try simp only [Act.put, List.setIfInBounds_toArray, List.set_cons_zero, List.set_cons_succ, List.getElem_toArray, List.getElem_cons_zero, List.getElem_cons_succ]
        refine mix.D_op (k := 6) rfl rfl (by kernel_rfl) (fun K' hK => ?_)
        simp only [List.getElem_toArray, List.getElem_cons_zero, List.getElem_cons_succ]
        obtain ⟨i0, hi0, hz0, hz1, hz2⟩ := info_parts infoOp
        refine wp_bulk2 Try.underlying81 hi0 hz0 hz1 hz2 rfl (by decide) (.tmp 60) (.tmp 62) rfl htw.1 rfl (m := 1) (ys := (⟨xk, xn, xv, xA, xm, xc, xb⟩ : TO).cells) rfl (Blk.rd (xs := (⟨xk, xn, xv, xA, xm, xc, xb⟩ : TO).cells) kqa kqa.lt) (fun h => by cases h) (Nat.le_refl _) (by intro u hu; simp [TO.cells] at hu; rcases hu with rfl | rfl | rfl | rfl | rfl <;> rfl) rfl (by have := woT_le lt xn; omega) (by have := woT_le lt xn; unfold maxLen; omega) ?_
        intro v9 w9 ho9 hk9 hv9
        have hb9 : Below w6.heap.size w6 w9 := hbA.trans (hk9.below (fun g hg => (fun g hg => Nat.le_trans hbQ.size (htw.2.1 g hg)) g hg) hbA.size)
        refine hK.out _ _ (fun _ => hb9) ?_
        clear hK K'
        try simp only [Act.put, List.setIfInBounds_toArray, List.set_cons_zero, List.set_cons_succ, List.getElem_toArray, List.getElem_cons_zero, List.getElem_cons_succ]
        refine mix.D_op (k := 7) rfl rfl (by kernel_rfl) (fun K' hK => ?_)
        simp only [List.getElem_toArray, List.getElem_cons_zero, List.getElem_cons_succ]
        go_wp2_with fail
        refine hK.out _ _ (fun h => by simp at h) ?_
        clear hK K'
        refine mix.D_done (by kernel_rfl) ?_ _
        have hv9' : ∀ g, v9.ownBlock = some g → w6.heap.size ≤ g := fun g hg => (hv9 g hg).elim (fun h => (fun g hg => Nat.le_trans hbQ.size (htw.2.1 g hg)) g h) (fun h => Nat.le_trans hbA.size h.1)
        have ho9' : w9.ownsRow 0 84 5 v9 (woT lt xn ++ [(⟨xk, xn, xv, xA, xm, xc, xb⟩ : TO)]).length (cellsT (woT lt xn ++ [(⟨xk, xn, xv, xA, xm, xc, xb⟩ : TO)])) := by rw [List.length_append, cellsT_app]; exact ho9
        clear hv9 ho9 hk9
        have hrow9 := ho9'
        have hp9 := hHp6.below hb9
        have kb9 := kb6.below hb9 kb6.lt
        have kX9 := kX6.below hb9 kX6.lt
        have zz9 := hb9.size
        obtain ⟨A9, c9, rfl, hv1, hv2, hv3⟩ := row_rdF ho9'
        have z0 := kb9.cell 0
        have z1 := kb9.cell 1
        have z2 := kb9.cell 2
        have z3 := kb9.cell 3
        have q1 := kX9.cell 1
        simp only [List.getElem?_toArray, List.getElem?_cons_zero, List.getElem?_cons_succ] at z0 z1 z2 z3 q1
        have lb9 := kb9.lt
        have lX9 := kX9.lt
        have hSh9 : Shown w9 h S' (ns ++ m) ⟨rk', rg', ro', rn'⟩ h' (withP L (xn, [vOf xv])) := ⟨hp9, HROOT.out, HHT.out.1, HHT.out.2.1, HHT.out.2.2⟩
        have hcall := get_ok h S' (ns ++ m) ⟨rk', rg', ro', rn'⟩ h' (withP L (xn, [vOf xv])) xn w9 hSh9 HMP.out.inc
        go_wp2_with fail
        refine hcall.mono ?_
        rintro e wg ⟨hbg, y, bb, rfl, hy, hOy, hys⟩
        obtain ⟨rfl, hyn, hyl⟩ := HMP.out.got (o := ⟨xk, xn, xv, xA, xm, xc, xb⟩) (List.mem_append_right _ (List.mem_singleton_self _)) hy
        clear hcall hSh9 hy z0 z1 z2 z3 q1
        obtain ⟨ys, yl, yA, yc⟩ := y
        simp only [] at hyn hyl hys
        subst hyl
        have hyn' := hyn.symm
        clear hyn
        subst hyn'
        have hri := RowI.of (lo := w9.heap.size) (hi := wg.heap.size) hOy.1 hOy.2.2.2
        clear hOy
        simp only [List.length_singleton] at hri ⊢
        have hszg := hbg.size
        have bE : Below wg.heap.size wg (wg.alloc (.cells #[.string xn, .slice yA 1 yc] 58)) := (Below.refl _ _).alloc (Nat.le_refl _) _
        have kE := Blk.new wg 58 #[.string xn, .slice yA 1 yc]
        have hriE := hri.below bE
        obtain ⟨gy, csy, rfl, hgy, hky, hcy⟩ := hriE.resolve_left (by decide)
        have hbE := hbg.trans (bE.mono hbg.size)
        have hpE := hp9.below hbE
        have kbE := kb9.below hbE kb9.lt
        have rowE := row_below hrow9 hbE
        have hlt9 := fun g hg => (hrow9.lt g hg).2
        have sE : wg.heap.size < (wg.alloc (.cells #[.string xn, .slice (some ⟨gy, 0, none⟩) 1 yc] 58)).heap.size := by simp
        generalize hWE : wg.alloc (.cells #[.string xn, .slice (some ⟨gy, 0, none⟩) 1 yc] 58) = WE at *
        have e1 := kE.cell 1
        simp only [List.getElem?_toArray, List.getElem?_cons_zero, List.getElem?_cons_succ] at e1
        have lE := kE.lt
        have hlb9 := kb9.lt
        have hS9 := hp9.lt
        have HRW := vers.lay rowE
        have HL9 := vers.lay hlt9
        have HV9 := vers.lay hv9'
        have HPE := vers.lay hpE
        have HS9 := vers.lay hS9
        clear hrow9 rowE hlt9 hv9' hv1 hv2 hv3 ho9' hri hriE hpE hS9
        go_wp2_with fail
        clear e1
        go_loopw [77] (fun i wi => ∃ k : Nat, k ≤ 1 ∧ i = .int .i64 (k : Int) ∧ Keep (fun g => g = gy) WE wi ∧ ∃ cs, Blk wi gy 114 cs ∧ 3 ≤ cs.size) (fun i _ => 1 - (intOf i).toNat)
        case atStart => exact ⟨0, Nat.zero_le _, rfl, Keep.refl _ _, csy, hky, hcy⟩
        case round =>
          clear hky hcy
          obtain ⟨k, hk, rfl, hki, cs, hkv, hcv⟩ := hrel
          have kEi := hki.blk kE (by omega)
          have e1 := kEi.cell 1
          simp only [List.getElem?_toArray, List.getElem?_cons_zero, List.getElem?_cons_succ] at e1
          have lEi := kEi.lt
          have lgy := hkv.lt
          by_cases hlk : k < 1
          · have hkz : k = 0 := by omega
            have fV := hkv.frozen (k * 3 + 1)
            have cV : ∃ u, wr.cell? ⟨gy, k * 3 + 1, none⟩ = some u := ⟨cs[k * 3 + 1]'(by omega), by rw [hkv.cell]; exact Array.getElem?_eq_getElem (by omega)⟩
            obtain ⟨uV, cV⟩ := cV
            have hK9 := keep_set hki (b := gy) rfl (k * 3 + 1) (.string ⟨#[115, 112, 111, 105, 108, 116, 32, 116, 111, 111]⟩)
            have hk9 := hkv.put (k * 3 + 1) (.string ⟨#[115, 112, 111, 105, 108, 116, 32, 116, 111, 111]⟩)
            have HKZ := vers.lay hkz
            clear hkz hkv
            go_wp2_with fail
            exact ⟨⟨k + 1, hlk, by go_num, hK9, _, hk9, by simpa using hcv⟩, by first | (simp [intOf]; done) | (simp [intOf]; omega) | omega⟩
          · obtain rfl : k = 1 := by omega
            have hnS : ∀ g, S' g → g ≠ gy := fun g hg => by have := HS9.out g hg; omega
            have hbz : Below w.heap.size w wr := (HB6.out.trans ((hb9.trans (hbE.mono zz9)).mono HB6.out.size)).trans (hki.below (fun g hg => by have := HB6.out.size; omega) (by have := HB6.out.size; have := hbE.size; omega))
            have hEk := hki.size
            have hlE9 := hbE.size
            have hI : OI w h rb S' (ns ++ m) ⟨rk', rg', ro', rn'⟩ h' (withP L (xn, [vOf xv])) (woT lt xn ++ [⟨xk, xn, xv, xA, xm, xc, xb⟩]) (.slice A9 (woT lt xn ++ [(⟨xk, xn, xv, xA, xm, xc, xb⟩ : TO)]).length c9) wr :=
              ⟨hbz, HPE.out.agree (fun g hg => hki.block g (by have := HS9.out g hg; omega) (hnS g hg)) hEk, HLO.out.1, HLO.out.2, hki.blk kbE (by omega), HI.out.lrb, ownsRow_agree HRW.out (fun g hg => hki.block g (by have := HL9.out g hg; omega) (by have := HL9.out g hg; omega)), fun g hg => ⟨by have := HV9.out g hg; have := HB6.out.size; omega, fun hs => by have := HV9.out g hg; have := HSL6.out g hs; omega, by have := HV9.out g hg; have := kb6.lt; omega⟩, fun x hx => (List.mem_append.1 hx).elim (fun h9 => HI.out.fits x (woT_mem.1 h9).1) (fun h9 => by rw [List.mem_singleton.1 h9]; exact HFX.out), HROOT.out, HMP.out, HREF.out⟩
            have hlast : (woT lt xn ++ [(⟨xk, xn, xv, xA, xm, xc, xb⟩ : TO)]).length ≤ j + 1 := by rw [List.length_append, List.length_singleton]; have := woT_le lt xn; omega
            have HI9 := vers.lay hI
            have HLA := vers.lay hlast
            clear hI hlast
            go_wp2_with fail
            refine ⟨⟨j + 1, S', ns ++ m, ⟨rk', rg', ro', rn'⟩, h', _, _, HJM.out, by go_num, HI9.out, HLA.out, HML.out⟩, by first | (simp [intOf]; done) | (simp [intOf]; omega) | (have := HJM.out; simp [intOf]; omega) | omega⟩
    ·
      obtain rfl : j = lm.length := by omega
      have hsh := hI.shown (by omega) (by omega)
      obtain ⟨ps, hps, hpl, hshape, hall⟩ := hsh.all2
      have HI := vers.lay hI
      have kb := hI.kb
      have hmp := hI.mp
      have hfit := hsh.fits
      have HSH := vers.lay hsh
      have HSLT := vers.lay hI.hp.lt
      have zwr := hI.below.size
      obtain ⟨At, ct, rfl, ht1, ht2, ht3⟩ := row_rdF hI.row
      have hTl : Tos wr wr.heap.size lt At ct := ⟨ht1, by omega, ht2, ht3.rd, hI.fits⟩
      have hltl : lt.length ≤ 50 := by omega
      clear hI hsh hshape ht1 ht2 ht3
      obtain ⟨rk, rg, ro, rn⟩ := r
      have z0 := kb.cell 0
      have z1 := kb.cell 1
      have z2 := kb.cell 2
      have z3 := kb.cell 3
      simp only [List.getElem?_toArray, List.getElem?_cons_zero, List.getElem?_cons_succ] at z0 z1 z2 z3
      have lb := kb.lt
      go_wp2_with fail
      refine hall.mono ?_
      rintro e wA ⟨hbA, sl, v9, rfl, hsl, hSn⟩
      clear hall z0 z1 z2 z3
      have hsll : sl.length ≤ 1000000 := by rw [← List.length_map (f := psn), hsl]; exact hpl
      obtain ⟨Ay, cy, rfl, _, _, _⟩ := row_rdF hSn.1
      have hsA := hbA.size
      have hSp0 : SpI wA wr.heap.size wA.heap.size (sl.map (·.2.2)) wA := ⟨Keep.refl _ _, fun y hy => by
        obtain ⟨s, hs, rfl⟩ := List.mem_map.1 hy
        exact NW.of (hSn.2.2 s hs) (fun g hg => hg.1), fun g cs hg => hg⟩
      have HLEN := vers.lay (fun s hs => ⟨(hSn.2.2 s hs).1.2.1, (hSn.2.2 s hs).2.1.2.1, fun y hy => ((hSn.2.2 s hs).1.2.2.2 y hy).1.2.1⟩ : ∀ s ∈ sl, s.2.2.es.length * 40 ≤ 140737488355328 ∧ s.2.2.ks.length * 48 ≤ 140737488355328 ∧ ∀ y ∈ s.2.2.es, y.l.length * 40 ≤ 140737488355328)
      have HROW := vers.lay hSn.1
      have kbA := kb.below hbA lb
      clear hSn hsl hps hpl kb
      have hwA := HI.out.below.trans (hbA.mono zwr)
      have hpA := HI.out.hp.below hbA
      have hTlA : Tos wA wr.heap.size lt At ct := hTl.below hbA
      have HROOT := vers.lay HI.out.root
      have HSHW := vers.lay (⟨HSH.out.low, HSH.out.len⟩ : _ ∧ _)
      clear hTl hbA HSH
      generalize wr.heap.size = lo at *
      have HPA := vers.lay hpA
      have HTA := vers.lay hTlA
      have HKA := vers.lay kbA
      clear hpA hTlA kbA
      go_wp2_with fail
      go_loopw [96] (fun i wi => ∃ k : Nat, k ≤ sl.length ∧ i = .int .i64 (k : Int) ∧ Hid (SpI wA lo wA.heap.size (sl.map (·.2.2)) wi)) (fun i _ => sl.length - (intOf i).toNat)
      case atStart => exact ⟨0, Nat.zero_le _, rfl, vers.lay hSp0⟩
      case round =>
        clear hSp0
        obtain ⟨k, hk, rfl, hSp⟩ := hrel
        have hsz := hSp.out.keep.size
        by_cases hkl : k < sl.length
        · obtain ⟨bk, off, rfl, hbk, e0, e1, e2, e3, e4, e5, e6, e7⟩ := seen_at (row_seen HROW.out hSp.out.seen) hkl
          have hle := HLEN.out _ (List.getElem_mem hkl)
          have hmem : sl[k].2.2 ∈ sl.map (·.2.2) := List.mem_map_of_mem (List.getElem_mem hkl)
          generalize sl[k] = sx at *
          obtain ⟨sd, ⟨sk, sg, so, sn⟩, ⟨slf, es, ks, sA, sc, sQ, sm⟩⟩ := sx
          simp only [] at e0 e1 e2 e3 e4 e5 e6 e7 hle hmem
          have b4 : Below wr.heap.size wr (wr.alloc (.cells #[.int .i64 (sd : Int), .int .u64 (sk : Int), .int .i64 sg, .int .i64 so, .int .i64 sn, .bool slf, .slice sA es.length sc, .slice sQ ks.length sm] 103)) := (Below.refl _ _).alloc (Nat.le_refl _) _
          have kB := Blk.new wr 103 #[.int .i64 (sd : Int), .int .u64 (sk : Int), .int .i64 sg, .int .i64 so, .int .i64 sn, .bool slf, .slice sA es.length sc, .slice sQ ks.length sm]
          have hSpB := hSp.out.next b4 hsz
          have hszB := b4.size
          have hsp := spoil_ok _ ⟨slf, es, ks, sA, sc, sQ, sm⟩ hmem _ _ _ (Nat.le_trans hsz hszB) hSpB.nodes hle.1 hle.2.1 hle.2.2
          have HSB := vers.lay hSpB
          clear hSpB hle hmem
          generalize hWB : wr.alloc (.cells #[.int .i64 (sd : Int), .int .u64 (sk : Int), .int .i64 sg, .int .i64 so, .int .i64 sn, .bool slf, .slice sA es.length sc, .slice sQ ks.length sm] 103) = WB at *
          have c0 := kB.cell 0
          have c1 := kB.cell 1
          have c2 := kB.cell 2
          have c3 := kB.cell 3
          have c4 := kB.cell 4
          have c5 := kB.cell 5
          have c6 := kB.cell 6
          have c7 := kB.cell 7
          simp only [List.getElem?_toArray, List.getElem?_cons_zero, List.getElem?_cons_succ] at c0 c1 c2 c3 c4 c5 c6 c7
          have lB := kB.lt
          go_wp2_with fail
          refine hsp.mono ?_
          rintro e wz ⟨rfl, hSz⟩
          go_wp2_with fail
          exact ⟨⟨k + 1, hkl, by go_num, vers.lay (HSB.out.trans hSz)⟩, by first | (simp [intOf]; done) | (simp [intOf]; omega) | omega⟩
        · obtain rfl : k = sl.length := by omega
          have hbL : Below lo wA wr := hSp.out.keep.below (fun g hg => hg.1) hsA
          have kbz := HKA.out.below hbL lb
          have hpz : Hp wr h S ns := HPA.out.agree (fun g hg => hbL.block g (HSLT.out g hg)) hbL.size
          have hTz := (HTA.out.below hbL).more (Nat.le_trans hsA hbL.size)
          have hwz := hwA.trans (hbL.mono zwr)
          obtain ⟨xr, hxr, _⟩ := HROOT.out
          have hrd := read_any ⟨rk, rg, ro, rn⟩ h S ns wr hpz hfit
          rw [hxr] at hrd
          clear hxr
          have HPZ := vers.lay hpz
          have HTZ := vers.lay hTz
          clear hpz hTz hSp hbL
          have z0 := kbz.cell 0
          have z1 := kbz.cell 1
          have z2 := kbz.cell 2
          have z3 := kbz.cell 3
          simp only [List.getElem?_toArray, List.getElem?_cons_zero, List.getElem?_cons_succ] at z0 z1 z2 z3
          have lbz := kbz.lt
          go_wp2_with fail
          refine hrd.mono ?_
          rintro e wB ⟨hbB, y, rfl, hyp, hOy⟩
          clear hrd hyp z0 z1 z2 z3
          have hyl := (⟨hOy.1.2.1, hOy.2.1.2.1, fun z hz => (hOy.1.2.2.2 z hz).1.2.1⟩ : y.es.length * 40 ≤ 140737488355328 ∧ y.ks.length * 48 ≤ 140737488355328 ∧ ∀ z ∈ y.es, z.l.length * 40 ≤ 140737488355328)
          have hNW := NW.of (lo := wr.heap.size) (hi := wB.heap.size) hOy (fun g hg => hg)
          clear hOy
          obtain ⟨ylf, yes, yks, yA, yc, yQ, ym⟩ := y
          have bC : Below wB.heap.size wB (wB.alloc (.cells #[.bool ylf, .slice yA yes.length yc, .slice yQ yks.length ym] 101)) := (Below.refl _ _).alloc (Nat.le_refl _) _
          have kC := Blk.new wB 101 #[.bool ylf, .slice yA yes.length yc, .slice yQ yks.length ym]
          have hNC := hNW.below bC
          have hbC := hbB.trans (bC.mono hbB.size)
          have kbC := kbz.below hbC lbz
          have hszB := hbB.size
          have hszC := bC.size
          have hsp := spoil_ok [⟨ylf, yes, yks, yA, yc, yQ, ym⟩] ⟨ylf, yes, yks, yA, yc, yQ, ym⟩ (List.mem_singleton_self _) wr.heap.size wB.heap.size _ hszC (fun z hz => by rw [List.mem_singleton.1 hz]; exact hNC) hyl.1 hyl.2.1 hyl.2.2
          clear hNW hNC hyl bC
          generalize hWC : wB.alloc (.cells #[.bool ylf, .slice yA yes.length yc, .slice yQ yks.length ym] 101) = WC at *
          have c0 := kC.cell 0
          have c1 := kC.cell 1
          have c2 := kC.cell 2
          simp only [List.getElem?_toArray, List.getElem?_cons_zero, List.getElem?_cons_succ] at c0 c1 c2
          have lC := kC.lt
          go_wp2_with fail
          refine hsp.mono ?_
          rintro e wD ⟨rfl, hSz⟩
          clear hsp c0 c1 c2
          have hbD := hbC.trans (hSz.keep.below (fun g hg => hg.1) hbC.size)
          have kbD := kbz.below hbD lbz
          have hshow : Shown wD h S ns ⟨rk, rg, ro, rn⟩ ht L := ⟨HPZ.out.below hbD, HROOT.out, HSHW.out.1, hfit, HSHW.out.2⟩
          have hcall := shows_ok h S ns ⟨rk, rg, ro, rn⟩ ht L lt At ct wD hshow (HTZ.out.at_world hbD) hmp
          have hwD := hwz.trans (hbD.mono hwz.size)
          clear hshow hSz hbC kbC
          have z0 := kbD.cell 0
          have z1 := kbD.cell 1
          have z2 := kbD.cell 2
          have z3 := kbD.cell 3
          simp only [List.getElem?_toArray, List.getElem?_cons_zero, List.getElem?_cons_succ] at z0 z1 z2 z3
          have lbD := kbD.lt
          go_wp2_with fail
          refine hcall.mono ?_
          rintro e wE ⟨rfl, hbE⟩
          go_wp2_with fail
          go_ret
          exact ⟨by first | rfl | simp, hwD.trans (hbE.mono hwD.size)⟩

end Go.Proofs.Ytchghlbiongccaa.trees
