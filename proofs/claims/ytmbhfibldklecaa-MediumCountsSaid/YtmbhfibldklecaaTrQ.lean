/- climber.all at what can't be read. -/
import Derived.Test.YtmbhfibldklecaaTrP


namespace Go.Proofs.Ytmbhfibldklecaa.trees
set_option linter.unusedVariables false
set_option linter.unusedSimpArgs false
open Go.RowKit Go.Proofs.Ytmbhfibldklecaa.base Go.Proofs.Ytmbhfibldklecaa.vers Go.Proofs.Ytmbhfibldklecaa.nodes Go.Proofs.Ytmbhfibldklecaa.quotas

abbrev _root_.Go.Proofs.Ytmbhfibldklecaa.nodes.K.r (k : K) : R := ⟨k.k, k.g, k.o, k.n⟩
/-- nodes of one kid each, down to an error -/
inductive Bad (ns : List P3) : R → Nat → Int → Prop where
  | page {r : R} {d : Nat} {k : Int} : pageE ns r d = .error k → Bad ns r d k
  | step {r : R} {d : Nat} {k : Int} {es : List (ByteArray × List V)} {x : K} : pageE ns r d = .ok (false, es, [x]) → Bad ns x.r (d + 1) k → Bad ns r d k
theorem pageE_err {ns : List P3} {r : R} {d : Nat} {k : Int} (h : pageE ns r d = .error k) : k = 70 ∨ k = 71 := by
  unfold pageE at h
  split at h
  · cases h; exact .inl rfl
  · split at h
    · cases h; exact .inr rfl
    · split at h
      · cases h; exact .inl rfl
      · cases h
theorem Bad.err {ns : List P3} {r : R} {d : Nat} {k : Int} (h : Bad ns r d k) : k = 70 ∨ k = 71 := by
  induction h with
  | page h => exact pageE_err h
  | step _ _ ih => exact ih
theorem pageE_le {ns : List P3} {r : R} {d : Nat} {x : P3} (h : pageE ns r d = .ok x) : d ≤ 8 := by
  unfold pageE at h
  split at h
  · cases h
  · omega

set_option maxRecDepth 100000 in
set_option maxHeartbeats 2000000 in
theorem below_any (lf : Bool) (es : List E) (ks : List K) (A : Option Addr) (c : Nat) (Q : Option Addr) (m : Nat) (w : World) :
    Calls Try.prog 77 #[.agg #[.bool lf, .slice A es.length c, .slice Q ks.length m]] w fun e w' => e = .returned (if lf then .slice none 0 0 else .slice Q ks.length m) ∧ Below w.heap.size w w' := by
  have hb : Below w.heap.size w (w.alloc (.cells #[.bool lf, .slice A es.length c, .slice Q ks.length m] 60)) := (Below.refl _ _).alloc (Nat.le_refl _) _
  cases lf with
  | true =>
    go_enter Try.func77, Try.ntmps77
    go_wp2_with fail
    go_ret
    exact ⟨rfl, hb⟩
  | false =>
    go_enter Try.func77, Try.ntmps77
    go_wp2_with fail
    go_ret
    exact ⟨rfl, hb⟩

set_option maxRecDepth 100000 in
set_option maxHeartbeats 2000000 in
theorem all_bad (h : Nat) (S : Nat → Prop) (ns : List P3) (r : R) (d : Nat) (k : Int) (hB : Bad ns r d k) : ∀ (w : World), Hp w h S ns → r.fits → d < 100 →
    Calls Try.prog 48 #[clim h, r.val, .int .i64 (d : Int)] w fun e w' => e = .returned (.tuple #[.slice none 0 0, .int .i64 k]) ∧ Below w.heap.size w w' := by
  induction hB with
  | @page r d k hE =>
    intro w hh hr hd
    have hp := fun w' (hb : Below w.heap.size w w') => page_any r d h S ns w' (hh.agree (fun g hg => hb.block g (hh.lt g hg)) hb.size) hr (by omega)
    rw [hE] at hp
    have hk : (k == 0) = false := by rcases pageE_err hE with rfl | rfl <;> rfl
    obtain ⟨rk, rg, ro, rn⟩ := r
    have b2 : Below w.heap.size w ((w.alloc (.cells #[.iface 23 (.pointer (some ⟨h, 0, none⟩))] 106)).alloc (.cells #[.int .u64 (rk : Int), .int .i64 rg, .int .i64 ro, .int .i64 rn] 27)) := ((Below.refl _ _).alloc (Nat.le_refl _) _).alloc (by simp) _
    go_enter Try.func48, Try.ntmps48
    go_wp2_with fail
    refine (hp _ b2).mono ?_
    rintro e w1 ⟨hb1, rfl⟩
    go_wp2_with fail
    refine bodyPost_ret (v := .tuple #[.slice none 0 0, .int .i64 k]) (by simp [results, Try.results48, go_sem]) rfl ?_
    exact ⟨rfl, (b2.trans (hb1.mono b2.size)).alloc (Nat.le_trans b2.size hb1.size) _⟩
  | @step r d k es x hE hB ih =>
    intro w hh hr hd
    have hd8 := pageE_le hE
    have hp := fun w' (hb : Below w.heap.size w w') => page_any r d h S ns w' (hh.agree (fun g hg => hb.block g (hh.lt g hg)) hb.size) hr (by omega)
    rw [hE] at hp
    have hk : (k == 0) = false := by rcases hB.err with rfl | rfl <;> rfl
    obtain ⟨rk, rg, ro, rn⟩ := r
    have b2 : Below w.heap.size w ((w.alloc (.cells #[.iface 23 (.pointer (some ⟨h, 0, none⟩))] 106)).alloc (.cells #[.int .u64 (rk : Int), .int .i64 rg, .int .i64 ro, .int .i64 rn] 27)) := ((Below.refl _ _).alloc (Nat.le_refl _) _).alloc (by simp) _
    go_enter Try.func48, Try.ntmps48
    go_wp2_with fail
    refine (hp _ b2).mono ?_
    rintro e w1 ⟨hb1, ⟨ylf, yes, yks, yA, yc, yQ, ym⟩, rfl, hy, hyO⟩
    simp only [N.p, Prod.mk.injEq] at hy
    obtain ⟨rfl, hes, rfl⟩ := hy
    have b1 := b2.trans (hb1.mono b2.size)
    have s1 := hb1.size
    simp only [World.size_alloc] at s1
    have yk := hyO.2.1.ks
    obtain ⟨_, _, e1, yk⟩ := yk
    injection e1 with e1 _ e2
    subst e1 e2
    have yk := yk.ks
    have xf := yk.2.2.2.2 x List.mem_cons_self
    have k0 := (((Blk.new w 106 #[.iface 23 (.pointer (some ⟨h, 0, none⟩))]).alloc (.cells #[.int .u64 (rk : Int), .int .i64 rg, .int .i64 ro, .int .i64 rn] 27)).below hb1 (by simp; omega))
    have k1 := (Blk.new (w.alloc (.cells #[.iface 23 (.pointer (some ⟨h, 0, none⟩))] 106)) 27 #[.int .u64 (rk : Int), .int .i64 rg, .int .i64 ro, .int .i64 rn]).below hb1 (by simp)
    simp only [World.size_alloc] at k1
    have c0 := k0.cell 0
    have r0 := k1.cell 0
    have r1 := k1.cell 1
    have r2 := k1.cell 2
    have r3 := k1.cell 3
    simp at c0 r0 r1 r2 r3
    have l0 := k0.lt
    have l1 := k1.lt
    clear b2 hp hE hB hes
    have b3 : Below w1.heap.size w1 ((w1.alloc (.cells #[.bool false, .slice yA yes.length yc, .slice yQ [x].length ym] 60)).alloc (.cells #[.int .i64 (d : Int), .int .u64 (rk : Int), .int .i64 rg, .int .i64 ro, .int .i64 rn, .bool false, .slice yA yes.length yc, .slice yQ [x].length ym] 62)) := ((Below.refl _ _).alloc (Nat.le_refl _) _).alloc (by simp) _
    rw [show [x].length = 1 from rfl] at b3
    go_wp2_with fail
    refine (below_any false yes [x] yA yc yQ ym _).mono ?_
    rintro e w2 ⟨rfl, hb2⟩
    have b12 : Below w1.heap.size w1 w2 := b3.trans (hb2.mono b3.size)
    have bw2 := b1.trans (b12.mono b1.size)
    have c0 := (b12.cell (p := ⟨w.heap.size, 0, none⟩) l0).trans c0
    have hh2 := hh.agree (fun g hg => bw2.block g (hh.lt g hg)) bw2.size
    obtain ⟨bk, off, rfl, hbk, e0, e1, e2, e3, e4⟩ := (yk.below b12).at_ (j := 0) (by simp)
    simp only [List.getElem_cons_zero, Nat.zero_mul, Nat.add_zero] at e0 e1 e2 e3 e4
    have l2 : w.heap.size < w2.heap.size := Nat.lt_of_lt_of_le l0 b12.size
    have hk2 : (k != 0) = true := by simp [bne, hk]
    clear b3 hb2 r0 r1 r2 r3 k0 k1 hb1 yk hyO
    go_wp2_with fail
    go_loopw [33] (fun i wr => i = .int .i64 0 ∧ wr = w2) (fun _ _ => 0)
    case atStart => exact ⟨rfl, rfl⟩
    case round =>
      obtain ⟨rfl, rfl⟩ := hrel
      have b4 : Below wr.heap.size wr (wr.alloc (.cells #[.string x.s, .int .u64 (x.k : Int), .int .i64 x.g, .int .i64 x.o, .int .i64 x.n] 66)) := (Below.refl _ _).alloc (Nat.le_refl _) _
      have hih := ih _ (hh2.below b4) ⟨xf.2.1, xf.2.2.1, xf.2.2.2.1, xf.2.2.2.2⟩ (by omega)
      rw [show ((d + 1 : Nat) : Int) = (d : Int) + 1 from rfl] at hih
      have ed : IntKind.i64.wrap ((d : Int) + 1) = (d : Int) + 1 := IntWalk.i64_in _ (by omega)
      go_wp2_with fail
      refine hih.mono ?_
      rintro e w3 ⟨rfl, hb3⟩
      go_wp2_with fail
      refine bodyPost_ret (v := .tuple #[.slice none 0 0, .int .i64 k]) (by simp [results, Try.results48, go_sem]) rfl ?_
      have b5 := bw2.trans (b4.mono bw2.size)
      exact ⟨rfl, b5.trans (hb3.mono b5.size)⟩

end Go.Proofs.Ytmbhfibldklecaa.trees
