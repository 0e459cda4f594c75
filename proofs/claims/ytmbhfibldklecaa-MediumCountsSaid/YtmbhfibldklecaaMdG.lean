/- What goes tells of a medium's past. -/
import Derived.Test.YtmbhfibldklecaaMdE
import Derived.Test.YtmbhfibldklecaaTrV
import Derived.Test.YtmbhfibldklecaaMixF
import Derived.Laws.EntriesVeiled


namespace Go.Proofs.Ytmbhfibldklecaa.mediums
set_option linter.unusedVariables false
set_option linter.unusedSimpArgs false
open Go.RowKit Go.Shelf Go.Proofs.Ytmbhfibldklecaa.base Go.Proofs.Ytmbhfibldklecaa.trees Go.Proofs.Ytmbhfibldklecaa.powers Go.Lib
attribute [local go_sem] Oper.semAt_some

/-- the six variables of goes, in the blocks from b on -/
def BX (W : World) (b : Nat) (wv vp fv : Value) (nv : Int) : Prop :=
  Boxed W b 77 wv ∧ Boxed W (b + 1) 3 (.int .i64 0) ∧ Boxed W (b + 1 + 1) 4 (.bool false) ∧ Boxed W (b + 1 + 1 + 1) 77 vp ∧ Boxed W (b + 1 + 1 + 1 + 1) 97 fv ∧ Boxed W (b + 1 + 1 + 1 + 1 + 1) 3 (.int .i64 nv)
theorem bx_own {β : Type} (b : Nat) (wv vp fv : Value) (f : β → Int) : Own (fun (s : β) W => BX W b wv vp fv (f s)) := fun s X Y row hs hg hr =>
  ⟨boxed_own _ _ (fun _ : Unit => _) () X Y row hs.1 hg hr, boxed_own _ _ (fun _ : Unit => _) () X Y row hs.2.1 hg hr, boxed_own _ _ (fun _ : Unit => _) () X Y row hs.2.2.1 hg hr, boxed_own _ _ (fun _ : Unit => _) () X Y row hs.2.2.2.1 hg hr, boxed_own _ _ (fun _ : Unit => _) () X Y row hs.2.2.2.2.1 hg hr, boxed_own _ _ (fun _ : Unit => _) () X Y row hs.2.2.2.2.2 hg hr⟩
theorem BX.alloc {W : World} {b : Nat} {wv vp fv : Value} {nv : Int} (h : BX W b wv vp fv nv) (o : Obj) : BX (W.alloc o) b wv vp fv nv := ⟨h.1.alloc o, h.2.1.alloc o, h.2.2.1.alloc o, h.2.2.2.1.alloc o, h.2.2.2.2.1.alloc o, h.2.2.2.2.2.alloc o⟩

theorem seq_nil (fn : Fn) (a b : Array Value) (u : World) : (binOp .eql 97 (.func fn a b) .nilFunc).run Try.prog u = .ok (.bool false) u := by
  have h : ∀ d, (Op.equalIn (d + 1) 97 (.func fn a b) .nilFunc).run Try.prog u = .ok false u := fun d => by
    simp [Op.equalIn, run_underlying Try.underlying97]
  simp only [binOp, Op.equal, Sem.run_bind]
  rw [show (Op.equalIn Op.maxDepth 97 (.func fn a b) .nilFunc).run Try.prog u = .ok false u from h _]
  rfl

set_option maxRecDepth 100000 in
theorem raw_neq (x y : RW) (u : World) : (binOp .neq 83 x.v y.v).run Try.prog u = .ok (.bool (!decide (x = y))) u := by
  obtain ⟨g, o, b⟩ := x
  obtain ⟨g', o', b'⟩ := y
  by_cases h1 : g = g'
  · have d1 : (g == g') = true := by simp [h1]
    by_cases h2 : o = o'
    · have d2 : (o == o') = true := by simp [h2]
      by_cases h3 : b = b'
      · have d3 : (b.toList == b'.toList) = true := by rw [h3]; exact beq_self_eq_true _
        have e : decide ((⟨g, o, b⟩ : RW) = ⟨g', o', b'⟩) = true := by simp [h1, h2, h3]
        rw [e]
        clear h1 h2 h3 e
        go_simp
      · have d3 : (b.toList == b'.toList) = false := by
          rw [beq_eq_false_iff_ne, Lib.toList_data, Lib.toList_data]
          exact fun e => h3 (ByteArray.ext (Array.toList_inj.1 e))
        have e : decide ((⟨g, o, b⟩ : RW) = ⟨g', o', b'⟩) = false := by simp [h3]
        rw [e]
        clear h1 h2 h3 e
        go_simp
    · have d2 : (o == o') = false := by simp [h2]
      have e : decide ((⟨g, o, b⟩ : RW) = ⟨g', o', b'⟩) = false := by simp [h2]
      rw [e]
      clear h1 h2 e
      go_simp
  · have d1 : (g == g') = false := by simp [h1]
    have e : decide ((⟨g, o, b⟩ : RW) = ⟨g', o', b'⟩) = false := by simp [h1]
    rw [e]
    clear h1 e
    go_simp
/-- a region that draws and only reads, inside a round of a range over a function -/
theorem region_class_in {P : Program} {id : Nat} {Q : Exit → Act → World → Prop} {a : Act} {w : World} {l : List Oper} (lp n : Nat) (N : World → World) (hm : P.follows .mixedOrders = true) (hd : mix.noDefer l.toArray = true) (hQ : ¬ LetsOut Q) (hB : Region.lexB .any l.toArray = true) (hC : ∃ n, w.drew = N n)
    (h : wpQuiet P l.toArray (fun w' => ∃ n, w' = N n) (fun a' => ∀ w', (∃ n, w' = N n) → Q .normal a' w') l a) : (Code.region id l.toArray true).wpIn (Fence.wide.inRound lp) n P Q a w := by
  simp only [Region.lexB, Bool.and_eq_true] at hB
  refine wpIn_region_any hm (mix.any_in lp n hd hQ _ _ _ _ (wpAny_of_quiet (C := fun w' => ∃ n, w' = N n) (Q := fun a' => ∀ w', (∃ n, w' = N n) → Q .normal a' w') (fun _ w' hw' h => h w' hw') _ _ _ _ hC ?_))
  have := wpAnyQ_lex (C := fun w' => ∃ n, w' = N n) (md := .any) hB.1 l 0 (Array.replicate l.length false) a (fun j => by rw [Nat.zero_add, List.getElem?_toArray]) (by simpa using hB.2) h
  simpa using this

theorem BX.set {W : World} {b : Nat} {wv vp fv : Value} {nv : Int} (h : BX W b wv vp fv nv) (nv' : Int) : BX (W.setCell ⟨b + 1 + 1 + 1 + 1 + 1, 0, none⟩ (.int .i64 nv')) b wv vp fv nv' :=
  ⟨h.1.other (by omega) _, h.2.1.other (by omega) _, h.2.2.1.other (by omega) _, h.2.2.2.1.other (by omega) _, h.2.2.2.2.1.other (by omega) _, h.2.2.2.2.2.set _⟩
theorem BX.below {W W' : World} {b : Nat} {wv vp fv : Value} {nv : Int} (h : BX W b wv vp fv nv) (hb : Below W.heap.size W W') : BX W' b wv vp fv nv :=
  ⟨(hb.block _ h.1.lt).trans h.1, (hb.block _ h.2.1.lt).trans h.2.1, (hb.block _ h.2.2.1.lt).trans h.2.2.1, (hb.block _ h.2.2.2.1.lt).trans h.2.2.2.1, (hb.block _ h.2.2.2.2.1.lt).trans h.2.2.2.2.1, (hb.block _ h.2.2.2.2.2.lt).trans h.2.2.2.2.2⟩
theorem keepsFrom_below {W W' : World} (B : Nat) (hb : Below W.heap.size W W') : KeepsFrom B W W' := ⟨hb.size, fun i o _ hi _ => (hb.block i (Array.getElem?_eq_some_iff.1 hi).1).trans hi⟩
theorem own_deferred {α : Type} (B D : Nat) (hD : D < B) : OwnFrom B (fun (_ : α) W => W.heap[D]? = some (.deferred (some []))) := fun s X Y row hs hg hr => by
  have hlt : D < X.heap.size := (Array.getElem?_eq_some_iff.1 hs).1
  exact (hg.block D hlt (fun e => by have := (hr D e.symm).1; omega)).trans hs

theorem snoc_take {ks pre : List RW} {x : RW} (h1 : pre = ks.take pre.length) (h2 : ks[pre.length]? = some x) : pre ++ [x] = ks.take (pre ++ [x]).length := by
  rw [List.length_append, List.length_singleton, List.take_add_one, h2, ← h1]; rfl
/-- what came last is not what stands there -/
def Off (ks pre : List RW) : Prop := ∃ (ini : List RW) (last : RW), pre = ini ++ [last] ∧ ks[ini.length]? ≠ some last
theorem Off.no {ks : List RW} {k : Nat} (hk : k < ks.length) (h : Off ks (ks.take (k + 1))) : False := by
  obtain ⟨ini, last, e1, e2⟩ := h
  rw [← take_snoc hk] at e1
  obtain ⟨rfl, e5⟩ := List.append_inj' e1 rfl
  simp only [List.cons.injEq, and_true] at e5
  subst e5
  rw [List.length_take, Nat.min_eq_left (by omega), List.getElem?_eq_getElem hk] at e2
  exact e2 rfl

theorem bx_new (w : World) (wv vp fv : Value) (b : Nat) (hb : w.heap.size = b) :
    BX ((((((w.alloc (.cells #[wv] 77)).alloc (.cells #[.int .i64 0] 3)).alloc (.cells #[.bool false] 4)).alloc (.cells #[vp] 77)).alloc (.cells #[fv] 97)).alloc (.cells #[.int .i64 0] 3)) b wv vp fv 0 := by
  subst hb
  refine ⟨(((((Boxed.new w 77 wv).alloc _).alloc _).alloc _).alloc _).alloc _, ?_, ?_, ?_, ?_, ?_⟩
  · have := ((((Boxed.new (w.alloc (.cells #[wv] 77)) 3 (.int .i64 0)).alloc (.cells #[.bool false] 4)).alloc (.cells #[vp] 77)).alloc (.cells #[fv] 97)).alloc (.cells #[.int .i64 0] 3)
    simpa only [World.size_alloc] using this
  · have := (((Boxed.new ((w.alloc (.cells #[wv] 77)).alloc (.cells #[.int .i64 0] 3)) 4 (.bool false)).alloc (.cells #[vp] 77)).alloc (.cells #[fv] 97)).alloc (.cells #[.int .i64 0] 3)
    simpa only [World.size_alloc] using this
  · have := ((Boxed.new (((w.alloc (.cells #[wv] 77)).alloc (.cells #[.int .i64 0] 3)).alloc (.cells #[.bool false] 4)) 77 vp).alloc (.cells #[fv] 97)).alloc (.cells #[.int .i64 0] 3)
    simpa only [World.size_alloc] using this
  · have := (Boxed.new ((((w.alloc (.cells #[wv] 77)).alloc (.cells #[.int .i64 0] 3)).alloc (.cells #[.bool false] 4)).alloc (.cells #[vp] 77)) 97 fv).alloc (.cells #[.int .i64 0] 3)
    simpa only [World.size_alloc] using this
  · have := Boxed.new (((((w.alloc (.cells #[wv] 77)).alloc (.cells #[.int .i64 0] 3)).alloc (.cells #[.bool false] 4)).alloc (.cells #[vp] 77)).alloc (.cells #[fv] 97)) 3 (.int .i64 0)
    simpa only [World.size_alloc] using this

set_option maxRecDepth 100000 in
set_option maxHeartbeats 8000000 in
theorem goes_in (n : Nat) (hn : 10 ≤ n) {w : World} {S : Nat → Prop} {pb g : Nat} {m : MS} {sb : Nat} {vs : List Value} {vp : Value} (hM : MdAt w S pb g m sb vs vp) (A : Option Addr) (c : Nat) (F0 : Nat → Prop) (hF0 : ∀ k, F0 k → k < w.heap.size) (hW : RsF w F0 m.past A c) :
    CallsIn Fence.wide n Try.prog 34 #[.pointer (some ⟨g, 0, none⟩), .slice A m.past.length c, .int .i64 0] w fun e W' => e = .returned (.bool true) ∧ Below w.heap.size w W' := by
  obtain ⟨PA, pc, rfl, hP⟩ := rsF_of_row hM.past hM.bnd.2.2.2
  have hPl : ∀ k, (Value.slice PA m.past.length pc).ownBlock = some k → k < w.heap.size := fun k hk => hM.lt k (hM.pastS k hk).1
  have h1 : 1 ≤ n := by omega
  have cP := fun (wx : World) (hb : Below w.heap.size w wx) => past_in Fence.wide (n - 1) trivial trivial rfl (by omega) (hM.agree (Agree.of_below hb hM.lt) hb.size)
  generalize m.past = ks at *
  have hlen : ks.length ≤ 140737488355328 := by have := hP.2.1; omega
  refine callsIn_of_wp_marks Try.func34 rfl trivial ?_ rfl
  simp only [Try.ntmps34, List.size_toArray, List.length_cons, List.length_nil, Nat.reduceAdd, Nat.reduceSub, Array.replicate_succ, Array.replicate_zero, List.push_toArray, List.append_toArray, List.nil_append, List.cons_append]
  have bZ : Below w.heap.size w (((w.alloc (.cells #[.slice A ks.length c] 77)).alloc (.cells #[.int .i64 0] 3)).alloc (.cells #[.bool false] 4)) := (((Below.refl _ w).alloc (Nat.le_refl _) _).alloc (by simp) _).alloc (by simp; omega) _
  have cP1 := cP _ bZ
  gi_wp2
  refine ⟨trivial, cP1.mono ?_⟩
  rintro e w' ⟨rfl, rfl⟩
  clear cP1 cP
  have hnf := seq_nil
  gi_wp2
  clear hnf
  obtain ⟨b, hb⟩ : ∃ b, w.heap.size = b := ⟨_, rfl⟩
  rw [hb]
  have hBX := bx_new w (.slice A ks.length c) (.slice PA ks.length pc) (.func (.func 88) #[] #[.pointer (some ⟨b + 1 + 1 + 1, 0, none⟩)]) b hb
  have hB0 : Below w.heap.size w ((((((w.alloc (.cells #[.slice A ks.length c] 77)).alloc (.cells #[.int .i64 0] 3)).alloc (.cells #[.bool false] 4)).alloc (.cells #[.slice PA ks.length pc] 77)).alloc (.cells #[.func (.func 88) #[] #[.pointer (some ⟨b + 1 + 1 + 1, 0, none⟩)]] 97)).alloc (.cells #[.int .i64 0] 3)) := ((bZ.alloc (by simp; omega) _).alloc (by simp; omega) _).alloc (by simp; omega) _
  have hsz : ((((((w.alloc (.cells #[.slice A ks.length c] 77)).alloc (.cells #[.int .i64 0] 3)).alloc (.cells #[.bool false] 4)).alloc (.cells #[.slice PA ks.length pc] 77)).alloc (.cells #[.func (.func 88) #[] #[.pointer (some ⟨b + 1 + 1 + 1, 0, none⟩)]] 97)).alloc (.cells #[.int .i64 0] 3)).heap.size = b + 6 := by simp; omega
  obtain ⟨W0, hW0⟩ : ∃ W0, ((((((w.alloc (.cells #[.slice A ks.length c] 77)).alloc (.cells #[.int .i64 0] 3)).alloc (.cells #[.bool false] 4)).alloc (.cells #[.slice PA ks.length pc] 77)).alloc (.cells #[.func (.func 88) #[] #[.pointer (some ⟨b + 1 + 1 + 1, 0, none⟩)]] 97)).alloc (.cells #[.int .i64 0] 3)) = W0 := ⟨_, rfl⟩
  rw [hW0] at hBX hB0 hsz ⊢
  rw [hb] at hB0 hPl hF0
  have HB := powers.lay hb
  clear hW0 bZ hb
  obtain ⟨G, hGd⟩ : ∃ G : Nat → Prop, G = fun k => k = b + 1 + 1 + 1 ∨ (Value.slice PA ks.length pc).ownBlock = some k := ⟨_, rfl⟩
  have hGl : ∀ k, G k → k < W0.heap.size := fun k hk => by
    rw [hGd] at hk
    rcases hk with h | h
    · omega
    · have := hPl k h; omega
  have hGP : G (b + 1 + 1 + 1) := by rw [hGd]; exact .inl rfl
  have hP0 : RsF W0 G ks PA pc := (hP.agree (Agree.of_below hB0 hPl)).mono fun k hk => by rw [hGd]; exact .inr hk
  have hGb : ∀ k, G k → k < b + 1 + 1 + 1 + 1 := fun k hk => by
    rw [hGd] at hk
    rcases hk with h | h
    · omega
    · have := hPl k h; omega
  rename_i K hKK
  have tail : ∀ (D : Nat) (W : World), W0.heap.size ≤ D → BX W b (.slice A ks.length c) (.slice PA ks.length pc) (.func (.func 88) #[] #[.pointer (some ⟨b + 1 + 1 + 1, 0, none⟩)]) 0 → Below b w W → W.heap[D]? = some (.deferred (some [])) → K { tmps := #[.pointer (some ⟨g, 0, none⟩), .slice A ks.length c, .int .i64 0, undef, .pointer (some ⟨b, 0, none⟩), .pointer (some ⟨b + 1, 0, none⟩), .pointer (some ⟨b + 1 + 1, 0, none⟩), .pointer (some ⟨b + 1 + 1 + 1 + 1, 0, none⟩), .pointer (some ⟨b + 1 + 1 + 1 + 1 + 1, 0, none⟩), undef, undef, .pointer (some ⟨g, 0, none⟩), .func (.func 88) #[] #[.pointer (some ⟨b + 1 + 1 + 1, 0, none⟩)], .func (.func 88) #[] #[.pointer (some ⟨b + 1 + 1 + 1, 0, none⟩)], .bool false, .func (.func 88) #[] #[.pointer (some ⟨b + 1 + 1 + 1, 0, none⟩)], undef, undef, undef, undef, undef, undef, undef, undef, undef, undef, undef, undef, undef, undef, undef, undef, undef, undef, undef, undef, undef, undef, undef, undef, undef, undef, undef, undef, undef, undef, undef, undef, undef, undef, undef, undef, undef, undef, undef], defers := [{ target := .collected D, args := #[] }] } W := by
    intro D W hD hX hB hKd
    refine hKK _ _ ?_
    have c0 := hX.2.1.cell
    have c1 := hX.2.2.2.2.2.cell
    have f1 := hX.2.2.2.2.2.frozen
    have c2 := hX.1.cell
    have c3 := hX.2.2.2.2.1.cell
    have hmin : min (0 : Int) (ks.length : Int) = 0 := by omega
    gi_wp2
    clear c0 c1 f1 c2 c3 hmin
    have hX1 := hX.set 0
    have hB1 := hB.setCell (p := ⟨b + 1 + 1 + 1 + 1 + 1, 0, none⟩) (by simp; omega) (.int .i64 0)
    have hD1 : D < W.heap.size := (Array.getElem?_eq_some_iff.1 hKd).1
    have hKd1 : (W.setCell ⟨b + 1 + 1 + 1 + 1 + 1, 0, none⟩ (.int .i64 0)).heap[D]? = some (.deferred (some [])) := (Below.heap_setCell _ _ _ _ (by simp; omega)).trans hKd
    have hz1 : (W.setCell ⟨b + 1 + 1 + 1 + 1 + 1, 0, none⟩ (.int .i64 0)).heap.size = W.heap.size := by simp
    generalize W.setCell ⟨b + 1 + 1 + 1 + 1 + 1, 0, none⟩ (.int .i64 0) = W1 at *
    rw [← hz1] at hD1
    have HD := powers.lay hD
    have HD1 := powers.lay hD1
    have hbW : b + 6 ≤ W1.heap.size := by omega
    clear hX hB hKd hz1 hD hD1
    have hGl1 : ∀ k, G k → k < W1.heap.size := fun k hk => by have := hGb k hk; omega
    have hP1 : RsF W1 G ks PA pc := (hP.agree (Agree.of_below hB1 hPl)).mono fun k hk => by rw [hGd]; exact .inr hk
    have hW' := fun (W' : World) (hB' : Below b w W') => hW.agree (Agree.of_below hB' hF0)
    refine wpIn_rangeFunc_ownH rfl h1 (gf := 88) (lb := #[.pointer (some ⟨b + 1 + 1 + 1, 0, none⟩)]) rfl trivial (enters_of Try.func88 (by kernel_rfl) rfl)
      (vals_stops Fence.wide (n - 1) trivial rfl (by omega) (b + 1 + 1 + 1) G ks PA pc W1 hGP hGl1 hX1.2.2.2.1.cell hP1) agree_t (agree_b hGl1) (Below.refl _ _) (fun _ => rfl)
      (fun pre W => ((pre = ks.take pre.length ∧ BX W b (.slice A ks.length c) (.slice PA ks.length pc) (.func (.func 88) #[] #[.pointer (some ⟨b + 1 + 1 + 1, 0, none⟩)]) (pre.length : Int)) ∧ W.heap[D]? = some (.deferred (some []))) ∧ Below b w W)
      (fun cc pre W => Off ks pre)
      (OwnFrom.and (OwnFrom.and (Own.from (fun s' X Y row hs hg hr => ⟨hs.1, bx_own _ _ _ _ (fun pre : List RW => (pre.length : Int)) s' X Y row hs.2 hg hr⟩) _) (own_deferred _ _ HD1.out)) (ownFrom_below (by have := HB.out; omega) (by omega)))
      (fun cc => fun s' X Y row hs hg hr => hs)
      ⟨⟨⟨rfl, hX1⟩, hKd1⟩, hB1⟩
      (fun x a' W => ∃ Bx, b + 1 + 1 + 1 + 1 + 1 < Bx ∧ Blk W Bx 83 #[.int .i64 x.g, .int .i64 x.o, .string x.b] ∧ a' = { tmps := #[.pointer (some ⟨g, 0, none⟩), .slice A ks.length c, .int .i64 0, undef, .pointer (some ⟨b, 0, none⟩), .pointer (some ⟨b + 1, 0, none⟩), .pointer (some ⟨b + 1 + 1, 0, none⟩), .pointer (some ⟨b + 1 + 1 + 1 + 1, 0, none⟩), .pointer (some ⟨b + 1 + 1 + 1 + 1 + 1, 0, none⟩), .pointer (some ⟨Bx, 0, none⟩), undef, .pointer (some ⟨g, 0, none⟩), .func (.func 88) #[] #[.pointer (some ⟨b + 1 + 1 + 1, 0, none⟩)], .func (.func 88) #[] #[.pointer (some ⟨b + 1 + 1 + 1, 0, none⟩)], .bool false, .func (.func 88) #[] #[.pointer (some ⟨b + 1 + 1 + 1, 0, none⟩)], undef, undef, undef, undef, undef, undef, .int .i64 0, .int .i64 0, .slice A ks.length c, .int .i64 (ks.length : Int), .int .i64 0, .bool false, .func (.func 88) #[] #[.pointer (some ⟨b + 1 + 1 + 1, 0, none⟩)], x.v, undef, undef, undef, undef, undef, undef, undef, undef, undef, undef, undef, undef, undef, undef, undef, undef, undef, undef, undef, undef, undef, undef, undef, undef, undef], defers := [] })
      (fun x a' _ X Y row hs hg hr => by obtain ⟨Bx, q1, q2, q3⟩ := hs; exact ⟨Bx, q1, blk_own Bx 83 (fun (_ : Unit) => _) () X Y row q2 hg (fun r e => (hr r e).2), q3⟩)
      ?assign2 ?body2 ?done2 ?stop2
    case assign2 =>
      rintro l pre x W K ⟨⟨⟨hp, hX⟩, hKd⟩, hB⟩ hK
      have hlt := hX.2.2.2.2.2.lt
      have hDl : D < W.heap.size := (Array.getElem?_eq_some_iff.1 hKd).1
      gi_wp2
      exact hK _ _ ((KeepsOthers.alloc _ _).from _) (Agree.of_below ((Below.refl _ W).alloc (Nat.le_refl _) _) (fun g hg => by have := hGb g hg; omega)) ⟨⟨⟨hp, hX.alloc _⟩, (Below.heap_alloc W _ D hDl).trans hKd⟩, hB.alloc (by omega) _⟩ ⟨W.heap.size, hlt, Blk.new _ _ _, rfl⟩
    case body2 =>
      rintro l pre x a' W2 hl ⟨r, hr⟩ ⟨⟨⟨hpre, hX⟩, hKd⟩, hB⟩ ⟨Bx, hBx, bX, rfl⟩ hlt
      by_cases hx : x = ks[pre.length]
      · obtain ⟨bk, off, rfl, hbk, q0, q1, q2⟩ := (hW' _ hB).at_ hlt
        rw [← hx] at q0 q1 q2
        have HXe := powers.lay (show ks[pre.length]? = some x by rw [List.getElem?_eq_getElem hlt, hx])
        have c0 := hX.2.2.2.2.2.cell
        have c2 := hX.1.cell
        have c3 := hX.2.2.2.2.1.cell
        have x0 := bX.cell 0
        have x1 := bX.cell 1
        have x2 := bX.cell 2
        simp only [List.getElem?_toArray, List.getElem?_cons_zero, List.getElem?_cons_succ] at x0 x1 x2
        have HH := powers.lay hpre
        clear hpre
        have d1 : decide ((ks.length : Int) ≤ (pre.length : Int)) = false := decide_eq_false (by omega)
        have d1n : decide (ks.length ≤ pre.length) = false := decide_eq_false (by omega)
        have hq := raw_neq x x
        rw [decide_eq_true rfl] at hq
        change ∀ u, (binOp .neq 83 x.v x.v).run Try.prog u = .ok (.bool false) u at hq
        clear hx
        have hmx : Try.prog.follows .mixedOrders = true := by kernel_rfl
        obtain ⟨N, hN, hM'⟩ := quotas.norms (fun wx => Below W2.heap.size W2 wx) W2 (Below.refl _ _)
        have hne : Nonempty World := ⟨W2⟩
        have lX := bX.lt
        have l0 := hX.2.2.2.2.2.lt
        have l2 := hX.1.lt
        have l3 := hX.2.2.2.2.1.lt
        have lk : bk < W2.heap.size := by have := hF0 _ hbk; omega
        have u0 := fun n => ((hN n).cell (p := ⟨b + 1 + 1 + 1 + 1 + 1, 0, none⟩) l0).trans c0
        have u2 := fun n => ((hN n).cell (p := ⟨b, 0, none⟩) l2).trans c2
        have v0 := fun n => ((hN n).cell (p := ⟨Bx, 0, none⟩) lX).trans x0
        have v1 := fun n => ((hN n).cell (p := ⟨Bx, 1, none⟩) lX).trans x1
        have v2 := fun n => ((hN n).cell (p := ⟨Bx, 2, none⟩) lX).trans x2
        have t0 := fun n => ((hN n).cell (p := ⟨bk, off + pre.length * 3, none⟩) lk).trans q0
        have t1 := fun n => ((hN n).cell (p := ⟨bk, off + pre.length * 3 + 1, none⟩) lk).trans q1
        have t2 := fun n => ((hN n).cell (p := ⟨bk, off + pre.length * 3 + 2, none⟩) lk).trans q2
        have hlt' : (pre.length : Int) < (ks.length : Int) := by omega
        gi_wp2
        refine region_class_in l _ N hmx (by kernel_rfl) (by rintro ⟨a, w, h⟩; exact h) (by kernel_rfl) (hM' _ (Below.refl _ W2).drew) ?_
        repeat (go_big_quiet_step (fail))
        refine wpQuiet_nil ?_
        rintro _ ⟨nn, rfl⟩
        have I9 := hN nn
        generalize N nn = W3 at I9 ⊢
        have hX3 := hX.below I9
        have s9 := I9.size
        have hr3 : W3.heap[l]? = some (.loop r) := (I9.block l (Array.getElem?_eq_some_iff.1 hr).1).trans hr
        have hKd3 : W3.heap[D]? = some (.deferred (some [])) := (I9.block D (Array.getElem?_eq_some_iff.1 hKd).1).trans hKd
        have hB3 : Below b w W3 := hB.trans (I9.mono (by omega))
        have hGl3 : ∀ k, G k → k < W3.heap.size := fun k hk => by have := hGb k hk; omega
        have hP3 : RsF W3 G ks PA pc := (hP.agree (Agree.of_below hB3 hPl)).mono fun k hk => by rw [hGd]; exact .inr hk
        have h1' : 1 ≤ n - 1 - 1 := by omega
        have HKS := powers.lay hlt
        clear u0 u2 v0 v1 v2 t0 t1 t2 hN hM' N hne c0 c2 c3 x0 x1 x2 q0 q1 q2 d1 d1n hlt hlt'
        have c3 := hX3.2.2.2.2.1.cell
        gi_wp2
        refine wpIn_rangeFunc_ownN (l₀ := l) (r₀ := r) rfl hr3 h1' (gf := 88) (lb := #[.pointer (some ⟨b + 1 + 1 + 1, 0, none⟩)]) rfl trivial (enters_of Try.func88 (by kernel_rfl) rfl)
          ((vals_stops Fence.wide (n - 1 - 1 - 1) trivial rfl (by omega) (b + 1 + 1 + 1) G ks PA pc W3 hGP hGl3 hX3.2.2.2.1.cell hP3).inRound l) agree_t (agree_b hGl3) (Below.refl _ _) (fun _ => rfl)
          (fun pre' W' => pre' = [] ∧ Below W2.heap.size W2 W')
          (fun cc pre' W' => (cc = .exit 4 ∧ Below W2.heap.size W2 W') ∨ Off ks pre')
          (OwnFrom.and (ownFrom_pure _ _) (ownFrom_below (Nat.le_refl _) s9))
          (fun cc => fun s' X Y row hs hg hr => hs.imp (fun h => ⟨h.1, ownFrom_below (β := Unit) (B := W3.heap.size) (Nat.le_refl _) s9 () X Y row h.2 hg hr⟩) id)
          ⟨rfl, I9⟩
          (fun y a' W => ∃ By, Blk W By 83 #[.int .i64 y.g, .int .i64 y.o, .string y.b] ∧ a' = { tmps := #[.pointer (some ⟨g, 0, none⟩), .slice (some ⟨bk, off, none⟩) ks.length c, .int .i64 0, undef, .pointer (some ⟨b, 0, none⟩), .pointer (some ⟨b + 1, 0, none⟩), .pointer (some ⟨b + 1 + 1, 0, none⟩), .pointer (some ⟨b + 1 + 1 + 1 + 1, 0, none⟩), .pointer (some ⟨b + 1 + 1 + 1 + 1 + 1, 0, none⟩), .pointer (some ⟨Bx, 0, none⟩), .pointer (some ⟨By, 0, none⟩), .pointer (some ⟨g, 0, none⟩), .func (.func 88) #[] #[.pointer (some ⟨b + 1 + 1 + 1, 0, none⟩)], .func (.func 88) #[] #[.pointer (some ⟨b + 1 + 1 + 1, 0, none⟩)], .bool false, .func (.func 88) #[] #[.pointer (some ⟨b + 1 + 1 + 1, 0, none⟩)], undef, undef, undef, undef, undef, undef, .int .i64 0, .int .i64 0, .slice (some ⟨bk, off, none⟩) ks.length c, .int .i64 (ks.length : Int), .int .i64 0, .bool false, .func (.func 88) #[] #[.pointer (some ⟨b + 1 + 1 + 1, 0, none⟩)], x.v, .int .i64 (pre.length : Int), .slice (some ⟨bk, off, none⟩) ks.length c, .int .i64 (ks.length : Int), .bool false, .bool false, x.v, .slice (some ⟨bk, off, none⟩) ks.length c, .int .i64 (pre.length : Int), .pointer (some ⟨bk, off + pre.length * 3, none⟩), x.v, .bool false, .bool false, .func (.func 88) #[] #[.pointer (some ⟨b + 1 + 1 + 1, 0, none⟩)], y.v, undef, undef, undef, undef, undef, undef, undef, undef, undef, undef, undef], defers := [] })
          (fun y a' _ X Y row hs hg hr => by obtain ⟨By, q2, q3⟩ := hs; exact ⟨By, blk_own By 83 (fun (_ : Unit) => _) () X Y row q2 hg (fun r e => (hr r e).2), q3⟩)
          ?assign3 ?body3 ?done3 ?stop3
        case assign3 =>
          rintro l3 pre' y W K ⟨hp', hB'⟩ hK
          have hsW := hB'.size
          gi_wp2
          exact hK _ _ ((KeepsOthers.alloc _ _).from _) (Agree.of_below ((Below.refl _ W).alloc (Nat.le_refl _) _) (fun g hg => by have := hGb g hg; omega)) ⟨hp', hB'.alloc hsW _⟩ ⟨W.heap.size, Blk.new _ _ _, rfl⟩
        case body3 =>
          rintro l3 pre' y a'' W4 _ _ ⟨hp', hB'⟩ ⟨By, bY, rfl⟩ _
          have hB4 := hB.trans (hB'.mono (by have := HB.out; have := hB.size; omega))
          have hX4 := hX.below hB'
          have hp0 : 0 < ks.length := by have := HKS.out; omega
          have HP' := powers.lay hp'
          clear hp'
          obtain ⟨bk', off', ek, hbk', q0, q1, q2⟩ := (hW' _ hB4).at_ hp0
          obtain ⟨rfl, rfl⟩ : bk = bk' ∧ off = off' := by injection ek with ek; injection ek with e1 e2 _; exact ⟨e1, e2⟩
          simp only [Nat.zero_mul, Nat.add_zero] at q0 q1 q2
          clear ek c3
          by_cases hy : y = ks[0]
          · rw [← hy] at q0 q1 q2
            have c2 := hX4.1.cell
            have x0 := bY.cell 0
            have x1 := bY.cell 1
            have x2 := bY.cell 2
            simp only [List.getElem?_toArray, List.getElem?_cons_zero, List.getElem?_cons_succ] at x0 x1 x2
            have hq := raw_neq y y
            rw [decide_eq_true rfl] at hq
            change ∀ u, (binOp .neq 83 y.v y.v).run Try.prog u = .ok (.bool false) u at hq
            clear hy
            have hmx : Try.prog.follows .mixedOrders = true := by kernel_rfl
            obtain ⟨N, hN, hM'⟩ := quotas.norms (fun wx => Below W4.heap.size W4 wx) W4 (Below.refl _ _)
            have hne : Nonempty World := ⟨W4⟩
            have lX := bY.lt
            have l2 := hX4.1.lt
            have lk : bk < W4.heap.size := by have := hF0 _ hbk'; have := hB4.size; have := HB.out; omega
            have u2 := fun n => ((hN n).cell (p := ⟨b, 0, none⟩) l2).trans c2
            have v0 := fun n => ((hN n).cell (p := ⟨By, 0, none⟩) lX).trans x0
            have v1 := fun n => ((hN n).cell (p := ⟨By, 1, none⟩) lX).trans x1
            have v2 := fun n => ((hN n).cell (p := ⟨By, 2, none⟩) lX).trans x2
            have t0 := fun n => ((hN n).cell (p := ⟨bk, off, none⟩) lk).trans q0
            have t1 := fun n => ((hN n).cell (p := ⟨bk, off + 1, none⟩) lk).trans q1
            have t2 := fun n => ((hN n).cell (p := ⟨bk, off + 2, none⟩) lk).trans q2
            have hlt' : (0 : Int) < (ks.length : Int) := by omega
            gi_wp2
            refine region_class_in l3 _ N hmx (by kernel_rfl) (by rintro ⟨a, w, h⟩; exact h) (by kernel_rfl) (hM' _ (Below.refl _ W4).drew) ?_
            repeat (go_big_quiet_step (fail))
            refine wpQuiet_nil ?_
            rintro _ ⟨nn, rfl⟩
            have I8 := hN nn
            generalize N nn = W5 at I8 ⊢
            clear u2 v0 v1 v2 t0 t1 t2 hN hM' N hne c2 x0 x1 x2 q0 q1 q2 hlt'
            have s8 := hB'.size
            gi_wp2
            exact ⟨keepsFrom_below _ I8, .inl ⟨rfl, hB'.trans (I8.mono s8)⟩⟩
          · have HYn := powers.lay (show ks[0]? ≠ some y from fun e => hy (by rw [List.getElem?_eq_getElem hp0] at e; injection e with e; exact e.symm))
            obtain ⟨z, hz⟩ : ∃ z, ks[0] = z := ⟨_, rfl⟩
            rw [hz] at q0 q1 q2 hy
            clear hz
            have c2 := hX4.1.cell
            have x0 := bY.cell 0
            have x1 := bY.cell 1
            have x2 := bY.cell 2
            simp only [List.getElem?_toArray, List.getElem?_cons_zero, List.getElem?_cons_succ] at x0 x1 x2
            have hq := raw_neq y z
            rw [decide_eq_false hy] at hq
            change ∀ u, (binOp .neq 83 y.v z.v).run Try.prog u = .ok (.bool true) u at hq
            clear hy
            have hmx : Try.prog.follows .mixedOrders = true := by kernel_rfl
            obtain ⟨N, hN, hM'⟩ := quotas.norms (fun wx => Below W4.heap.size W4 wx) W4 (Below.refl _ _)
            have hne : Nonempty World := ⟨W4⟩
            have lX := bY.lt
            have l2 := hX4.1.lt
            have lk : bk < W4.heap.size := by have := hF0 _ hbk'; have := hB4.size; have := HB.out; omega
            have u2 := fun n => ((hN n).cell (p := ⟨b, 0, none⟩) l2).trans c2
            have v0 := fun n => ((hN n).cell (p := ⟨By, 0, none⟩) lX).trans x0
            have v1 := fun n => ((hN n).cell (p := ⟨By, 1, none⟩) lX).trans x1
            have v2 := fun n => ((hN n).cell (p := ⟨By, 2, none⟩) lX).trans x2
            have t0 := fun n => ((hN n).cell (p := ⟨bk, off, none⟩) lk).trans q0
            have t1 := fun n => ((hN n).cell (p := ⟨bk, off + 1, none⟩) lk).trans q1
            have t2 := fun n => ((hN n).cell (p := ⟨bk, off + 2, none⟩) lk).trans q2
            have hlt' : (0 : Int) < (ks.length : Int) := by omega
            gi_wp2
            refine region_class_in l3 _ N hmx (by kernel_rfl) (by rintro ⟨a, w, h⟩; exact h) (by kernel_rfl) (hM' _ (Below.refl _ W4).drew) ?_
            repeat (go_big_quiet_step (fail))
            refine wpQuiet_nil ?_
            rintro _ ⟨nn, rfl⟩
            have I8 := hN nn
            generalize N nn = W5 at I8 ⊢
            clear u2 v0 v1 v2 t0 t1 t2 hN hM' N hne c2 x0 x1 x2 q0 q1 q2 hlt'
            have s8 := hB'.size
            have hX5 := hX4.below I8
            have cR := hX5.2.2.1.cell
            have fR := hX5.2.2.1.frozen
            gi_wp2
            exact ⟨(keepsFrom_below _ I8).trans ((KeepsOthers.setCell _ _ _).from _), .inr ⟨[], y, by rw [HP'.out], HYn.out⟩⟩
        case done3 =>
          rintro ys W4 rfl ⟨hp', _⟩
          exact absurd HKS.out (by rw [hp']; simp)
        case stop3 =>
          rintro cc pre' W4 ⟨k, hk, rfl⟩ (⟨rfl, hB'⟩ | h)
          · have hX4 := hX.below hB'
            have c0 := hX4.2.2.2.2.2.cell
            have f0 := hX4.2.2.2.2.2.frozen
            have e1 : IntKind.i64.wrap ((pre.length : Int) + 1) = (pre.length : Int) + 1 := IntWalk.i64_in _ (by have := HKS.out; omega)
            have hsz4 := hB'.size
            have hKd4 : W4.heap[D]? = some (.deferred (some [])) := (hB'.block D (Array.getElem?_eq_some_iff.1 hKd).1).trans hKd
            gi_wp2
            refine ⟨(keepsFrom_below _ hB').trans ((KeepsOthers.setCell _ _ _).from _), (Agree.of_below hB' (fun g hg => by have := hGb g hg; omega)).trans (fun g hg => Below.heap_setCell _ _ _ _ (by have := hGb g hg; simp; omega)), ⟨⟨⟨snoc_take HH.out HXe.out, ?_⟩, (Below.heap_setCell _ _ _ _ (by have := HD.out; simp; omega)).trans hKd4⟩, (hB.trans (hB'.mono (by have := HB.out; have := hB.size; omega))).setCell (p := ⟨b + 1 + 1 + 1 + 1 + 1, 0, none⟩) (by simp; omega) _⟩⟩
            rw [List.length_append, List.length_singleton]
            exact hX4.set _
          · exact (h.no hk).elim
      · obtain ⟨bk, off, rfl, hbk, q0, q1, q2⟩ := (hW' _ hB).at_ hlt
        have HXn := powers.lay (show ks[pre.length]? ≠ some x from fun e => hx (by rw [List.getElem?_eq_getElem hlt] at e; injection e with e; exact e.symm))
        obtain ⟨z, hz⟩ : ∃ z, ks[pre.length] = z := ⟨_, rfl⟩
        rw [hz] at q0 q1 q2 hx
        clear hz
        have c0 := hX.2.2.2.2.2.cell
        have c2 := hX.1.cell
        have c3 := hX.2.2.2.2.1.cell
        have x0 := bX.cell 0
        have x1 := bX.cell 1
        have x2 := bX.cell 2
        simp only [List.getElem?_toArray, List.getElem?_cons_zero, List.getElem?_cons_succ] at x0 x1 x2
        have HH := powers.lay hpre
        clear hpre
        have d1 : decide ((ks.length : Int) ≤ (pre.length : Int)) = false := decide_eq_false (by omega)
        have d1n : decide (ks.length ≤ pre.length) = false := decide_eq_false (by omega)
        have hq := raw_neq x z
        rw [decide_eq_false hx] at hq
        change ∀ u, (binOp .neq 83 x.v z.v).run Try.prog u = .ok (.bool true) u at hq
        clear hx
        have hmx : Try.prog.follows .mixedOrders = true := by kernel_rfl
        obtain ⟨N, hN, hM'⟩ := quotas.norms (fun wx => Below W2.heap.size W2 wx) W2 (Below.refl _ _)
        have hne : Nonempty World := ⟨W2⟩
        have lX := bX.lt
        have l0 := hX.2.2.2.2.2.lt
        have l2 := hX.1.lt
        have l3 := hX.2.2.2.2.1.lt
        have lk : bk < W2.heap.size := by have := hF0 _ hbk; omega
        have u0 := fun n => ((hN n).cell (p := ⟨b + 1 + 1 + 1 + 1 + 1, 0, none⟩) l0).trans c0
        have u2 := fun n => ((hN n).cell (p := ⟨b, 0, none⟩) l2).trans c2
        have v0 := fun n => ((hN n).cell (p := ⟨Bx, 0, none⟩) lX).trans x0
        have v1 := fun n => ((hN n).cell (p := ⟨Bx, 1, none⟩) lX).trans x1
        have v2 := fun n => ((hN n).cell (p := ⟨Bx, 2, none⟩) lX).trans x2
        have t0 := fun n => ((hN n).cell (p := ⟨bk, off + pre.length * 3, none⟩) lk).trans q0
        have t1 := fun n => ((hN n).cell (p := ⟨bk, off + pre.length * 3 + 1, none⟩) lk).trans q1
        have t2 := fun n => ((hN n).cell (p := ⟨bk, off + pre.length * 3 + 2, none⟩) lk).trans q2
        have hlt' : (pre.length : Int) < (ks.length : Int) := by omega
        gi_wp2
        refine region_class_in l _ N hmx (by kernel_rfl) (by rintro ⟨a, w, h⟩; exact h) (by kernel_rfl) (hM' _ (Below.refl _ W2).drew) ?_
        repeat (go_big_quiet_step (fail))
        refine wpQuiet_nil ?_
        rintro _ ⟨nn, rfl⟩
        have I9 := hN nn
        generalize N nn = W3 at I9 ⊢
        have hX3 := hX.below I9
        have cR := hX3.2.2.1.cell
        have fR := hX3.2.2.1.frozen
        clear u0 u2 v0 v1 v2 t0 t1 t2 hN hM' N hne c0 c2 c3 x0 x1 x2 q0 q1 q2 d1 d1n hlt hlt'
        gi_wp2
        exact ⟨(keepsFrom_below _ I9).trans ((KeepsOthers.setCell _ _ _).from _), ⟨pre, x, rfl, HXn.out⟩⟩
    case done2 =>
      rintro D2 ys W2 hD2 rfl ⟨⟨⟨hp, hX⟩, hKd⟩, hB⟩ hK
      clear hp
      have c0 := hX.2.2.2.2.2.cell
      have c2 := hX.1.cell
      have cR := hX.2.2.1.cell
      have fR := hX.2.2.1.frozen
      gi_wp2
      have hKa := (KeepsOthers.setCell W2 ⟨b + 1 + 1, 0, none⟩ (.bool true)).same D2 _ hK rfl
      have hKb := (KeepsOthers.setCell W2 ⟨b + 1 + 1, 0, none⟩ (.bool true)).same D _ hKd rfl
      have hBw : Below w.heap.size w W2 := by rw [HB.out]; exact hB
      have hBf := hBw.setCell (p := ⟨b + 1 + 1, 0, none⟩) (by have := HB.out; simp; omega) (.bool true)
      have hc1 := World.cell?_setCell_same' W2 ⟨b + 1 + 1, 0, none⟩ (.bool true) (by rw [cR]; rfl)
      have hlD : D < W1.heap.size := HD1.out
      have hsD := HB.out
      generalize W2.setCell ⟨b + 1 + 1, 0, none⟩ (.bool true) = Wf at *
      refine ⟨by simp, .inl ⟨_, _, rfl, run_takeDeferred hKa, ?_⟩⟩
      have hc2 := cell_kept hc1 (grownBy_putObj' _ D2 (.deferred none)) (fun r e => by cases e; exact ⟨_, hKa, rfl⟩)
      have hKb2 := ((grownBy_putObj' Wf D2 (.deferred none)).block D (Array.getElem?_eq_some_iff.1 hKb).1 (fun e => by injection e with e; omega)).trans hKb
      have hB2 := hBf.trans (belowK_b (w := w) (Nat.le_refl _) Wf D2 _ (.deferred none) (by omega) hKa rfl rfl)
      generalize Wf.putObj D2 (.deferred none) = Wg at *
      refine ⟨by simp, .inl ⟨_, _, rfl, run_takeDeferred hKb2, ?_⟩⟩
      have hc3 := cell_kept hc2 (grownBy_putObj' _ D (.deferred none)) (fun r e => by cases e; exact ⟨_, hKb2, rfl⟩)
      refine ⟨.bool true, ?_, rfl, hB2.trans (belowK_b (w := w) (Nat.le_refl _) Wg D _ _ (by have := HD.out; omega) hKb2 rfl rfl)⟩
      simp [results, Try.results34, go_sem, hc3]
    case stop2 =>
      rintro D2 cc pre W2 hD2 ⟨k, hk, rfl⟩ h hK
      exact (h.no hk).elim
  refine wpIn_rangeFunc_ownH rfl h1 (gf := 88) (lb := #[.pointer (some ⟨b + 1 + 1 + 1, 0, none⟩)]) rfl trivial (enters_of Try.func88 (by kernel_rfl) rfl)
    (vals_stops Fence.wide (n - 1) trivial rfl (by omega) (b + 1 + 1 + 1) G ks PA pc W0 hGP hGl hBX.2.2.2.1.cell hP0) agree_t (agree_b hGl) (Below.refl _ _) (fun _ => rfl)
    (fun pre W => (pre = [] ∧ BX W b (.slice A ks.length c) (.slice PA ks.length pc) (.func (.func 88) #[] #[.pointer (some ⟨b + 1 + 1 + 1, 0, none⟩)]) 0) ∧ Below b w W)
    (fun cc pre W => (cc = .exit 0 ∧ BX W b (.slice A ks.length c) (.slice PA ks.length pc) (.func (.func 88) #[] #[.pointer (some ⟨b + 1 + 1 + 1, 0, none⟩)]) 0) ∧ Below b w W)
    (OwnFrom.and (Own.from (fun s' X Y row hs hg hr => ⟨hs.1, bx_own _ _ _ _ (fun _ : Unit => 0) () X Y row hs.2 hg hr⟩) _) (ownFrom_below (by have := HB.out; omega) (by have := HB.out; omega)))
    (fun cc => OwnFrom.and (Own.from (fun s' X Y row hs hg hr => ⟨hs.1, bx_own _ _ _ _ (fun _ : Unit => 0) () X Y row hs.2 hg hr⟩) _) (ownFrom_below (by have := HB.out; omega) (by have := HB.out; omega)))
    ⟨⟨rfl, hBX⟩, hB0⟩
    (fun x a' W => a' = { tmps := #[.pointer (some ⟨g, 0, none⟩), .slice A ks.length c, .int .i64 0, undef, .pointer (some ⟨b, 0, none⟩), .pointer (some ⟨b + 1, 0, none⟩), .pointer (some ⟨b + 1 + 1, 0, none⟩), .pointer (some ⟨b + 1 + 1 + 1 + 1, 0, none⟩), .pointer (some ⟨b + 1 + 1 + 1 + 1 + 1, 0, none⟩), undef, undef, .pointer (some ⟨g, 0, none⟩), .func (.func 88) #[] #[.pointer (some ⟨b + 1 + 1 + 1, 0, none⟩)], .func (.func 88) #[] #[.pointer (some ⟨b + 1 + 1 + 1, 0, none⟩)], .bool false, .func (.func 88) #[] #[.pointer (some ⟨b + 1 + 1 + 1, 0, none⟩)], x.v, undef, undef, undef, undef, undef, undef, undef, undef, undef, undef, undef, undef, undef, undef, undef, undef, undef, undef, undef, undef, undef, undef, undef, undef, undef, undef, undef, undef, undef, undef, undef, undef, undef, undef, undef, undef, undef, undef], defers := [] })
    (fun x a' _ X Y row hs hg hr => hs)
    ?assign ?body ?done ?stop
  case assign =>
    rintro l pre x W K ⟨⟨hp, hX⟩, hB⟩ hK
    gi_wp2
    exact hK _ _ (KeepsFrom.refl _ _) (Agree.refl _ _) ⟨⟨hp, hX⟩, hB⟩ rfl
  case body =>
    rintro l pre x a' W hl ⟨r, hr⟩ ⟨⟨hp, hX⟩, hB⟩ rfl hlt
    have c0 := hX.2.1.cell
    have c1 := hX.2.2.2.2.2.cell
    gi_wp2
    exact ⟨KeepsFrom.refl _ _, ⟨rfl, hX⟩, hB⟩
  case done =>
    rintro D ys W hD rfl ⟨⟨hp, hX⟩, hB⟩ hK
    clear hp
    gi_wp2
    exact tail D W hD hX hB hK
  case stop =>
    rintro D cc pre W hD ⟨k, hk, rfl⟩ ⟨⟨rfl, hX⟩, hB⟩ hK
    gi_wp2
    exact tail D W hD hX hB hK

theorem goes_ok {w : World} {S : Nat → Prop} {pb g : Nat} {m : MS} (hM : Md w S pb g m) (A : Option Addr) (c : Nat) (F0 : Nat → Prop) (hF0 : ∀ k, F0 k → k < w.heap.size) (hW : RsF w F0 m.past A c) :
    Calls Try.prog 34 #[.pointer (some ⟨g, 0, none⟩), .slice A m.past.length c, .int .i64 0] w fun e W' => e = .returned (.bool true) ∧ Below w.heap.size w W' := by
  obtain ⟨sb, vs, vp, hM⟩ := hM
  exact (callsIn_wide (n := 10)).1 (goes_in 10 (by omega) hM A c F0 hF0 hW)
end Go.Proofs.Ytmbhfibldklecaa.mediums
