/- A medium's Bytes. -/
import Derived.Test.YtmbhfibldklecaaMdG


namespace Go.Proofs.Ytmbhfibldklecaa.mediums
set_option linter.unusedVariables false
set_option linter.unusedSimpArgs false
open Go.RowKit Go.Shelf Go.Proofs.Ytmbhfibldklecaa.base Go.Proofs.Ytmbhfibldklecaa.trees Go.Proofs.Ytmbhfibldklecaa.powers Go.Lib
attribute [local go_sem] Oper.semAt_some

/-- how many bytes, as they are counted -/
def bytesW (l : List RW) : Int := l.foldl (fun a x => wrap64 (a + (x.b.size : Int))) 0
theorem bytesW_snoc (l : List RW) (x : RW) : bytesW (l ++ [x]) = wrap64 (bytesW l + (x.b.size : Int)) := by simp [bytesW, List.foldl_append]

set_option maxRecDepth 100000 in
set_option maxHeartbeats 4000000 in
theorem bytes_in (n : Nat) (hn : 6 ≤ n) {w : World} {S : Nat → Prop} {pb g : Nat} {m : MS} {sb : Nat} {vs : List Value} {vp : Value} (hM : MdAt w S pb g m sb vs vp) :
    CallsIn Fence.wide n Try.prog 39 #[.pointer (some ⟨g, 0, none⟩)] w fun e W' => e = .returned (.int .i64 (bytesW m.past)) ∧ Below w.heap.size w W' := by
  obtain ⟨PA, pc, rfl, hP⟩ := rsF_of_row hM.past hM.bnd.2.2.2
  have hPl : ∀ k, (Value.slice PA m.past.length pc).ownBlock = some k → k < w.heap.size := fun k hk => hM.lt k (hM.pastS k hk).1
  have h1 : 1 ≤ n := by omega
  have bZ : Below w.heap.size w (w.alloc (.cells #[.int .i64 0] 3)) := (Below.refl _ w).alloc (Nat.le_refl _) _
  have cP1 := past_in Fence.wide (n - 1) trivial trivial rfl (by omega) (hM.agree (Agree.of_below bZ hM.lt) bZ.size)
  generalize m.past = ks at *
  refine callsIn_of_wp_marks Try.func39 rfl trivial ?_ rfl
  simp only [Try.ntmps39, List.size_toArray, List.length_cons, List.length_nil, Nat.reduceAdd, Nat.reduceSub, Array.replicate_succ, Array.replicate_zero, List.push_toArray, List.append_toArray, List.nil_append, List.cons_append]
  gi_wp2
  refine ⟨trivial, cP1.mono ?_⟩
  rintro e w' ⟨rfl, rfl⟩
  clear cP1
  gi_wp2
  obtain ⟨b, hb⟩ : ∃ b, w.heap.size = b := ⟨_, rfl⟩
  rw [hb]
  have bN := (Boxed.new w 3 (.int .i64 0)).alloc (.cells #[.slice PA ks.length pc] 77)
  have bP := Boxed.new (w.alloc (.cells #[.int .i64 0] 3)) 77 (.slice PA ks.length pc)
  simp only [World.size_alloc] at bP
  have hB0 : Below w.heap.size w ((w.alloc (.cells #[.int .i64 0] 3)).alloc (.cells #[.slice PA ks.length pc] 77)) := bZ.alloc (by simp) _
  have hsz : ((w.alloc (.cells #[.int .i64 0] 3)).alloc (.cells #[.slice PA ks.length pc] 77)).heap.size = b + 2 := by simp; omega
  obtain ⟨W0, hW0⟩ : ∃ W0, ((w.alloc (.cells #[.int .i64 0] 3)).alloc (.cells #[.slice PA ks.length pc] 77)) = W0 := ⟨_, rfl⟩
  rw [hW0] at bN bP hB0 hsz ⊢
  rw [hb] at bN bP hB0 hPl
  have HB := powers.lay hb
  clear hW0 bZ hb
  obtain ⟨G, hGd⟩ : ∃ G : Nat → Prop, G = fun k => k = b + 1 ∨ (Value.slice PA ks.length pc).ownBlock = some k := ⟨_, rfl⟩
  have hGl : ∀ k, G k → k < W0.heap.size := fun k hk => by
    rw [hGd] at hk
    rcases hk with h | h
    · omega
    · have := hPl k h; omega
  have hGn : ∀ k, G k → k ≠ b := fun k hk => by
    rw [hGd] at hk
    rcases hk with h | h
    · omega
    · have := hPl k h; omega
  have hGP : G (b + 1) := by rw [hGd]; exact .inl rfl
  have hP0 : RsF W0 G ks PA pc := (hP.agree (Agree.of_below hB0 hPl)).mono fun k hk => by rw [hGd]; exact .inr hk
  refine wpIn_rangeFunc_ownH rfl h1 (gf := 88) (lb := #[.pointer (some ⟨b + 1, 0, none⟩)]) rfl trivial (enters_of Try.func88 (by kernel_rfl) rfl)
    (vals_stops Fence.wide (n - 1) trivial rfl (by omega) (b + 1) G ks PA pc W0 hGP hGl bP.cell hP0) agree_t (agree_b hGl) (Below.refl _ _) (fun _ => rfl)
    (fun pre W => (Boxed W b 3 (.int .i64 (bytesW pre)) ∧ Boxed W (b + 1) 77 (.slice PA ks.length pc)) ∧ Below b w W)
    (fun _ _ _ => False)
    (OwnFrom.and (OwnFrom.and (Own.from (boxed_own b 3 (fun pre : List RW => Value.int .i64 (bytesW pre))) _) (Own.from (boxed_own (b + 1) 77 (fun _ : List RW => _)) _)) (ownFrom_below (by have := HB.out; omega) (by omega)))
    (fun _ _ _ _ _ hs _ _ => hs)
    ⟨⟨bN, bP⟩, hB0⟩
    (fun x a' W => ∃ Bx, b < Bx ∧ Blk W Bx 83 #[.int .i64 x.g, .int .i64 x.o, .string x.b] ∧ a' = { tmps := #[.pointer (some ⟨g, 0, none⟩), undef, .int .i64 0, .pointer (some ⟨b, 0, none⟩), .pointer (some ⟨Bx, 0, none⟩), .pointer (some ⟨g, 0, none⟩), .func (.func 88) #[] #[.pointer (some ⟨b + 1, 0, none⟩)], x.v, undef, undef, undef, undef, undef, undef], defers := [] })
    (fun x a' _ X Y row hs hg hr => by obtain ⟨Bx, q1, q2, q3⟩ := hs; exact ⟨Bx, q1, blk_own Bx 83 (fun (_ : Unit) => _) () X Y row q2 hg (fun r e => (hr r e).2), q3⟩)
    ?assign ?body ?done ?stop
  case assign =>
    rintro l pre x W K ⟨⟨hN, hP'⟩, hB⟩ hK
    have := hB.size
    have := HB.out
    have hlt := hN.lt
    gi_wp2
    exact hK _ _ ((KeepsOthers.alloc _ _).from _) (fun g hg => Below.heap_alloc W _ g (by have := hP'.lt; rw [hGd] at hg; rcases hg with h | h; omega; have := hPl g h; omega)) ⟨⟨hN.alloc _, hP'.alloc _⟩, hB.alloc (by omega) _⟩ ⟨W.heap.size, hlt, Blk.new _ _ _, rfl⟩
  case body =>
    rintro l pre x a' W hl ⟨r, hr⟩ ⟨⟨hN, hP'⟩, hB⟩ ⟨Bx, hBx, bX, rfl⟩ hlt
    have c0 := hN.cell
    have f0 := hN.frozen
    have x2 := bX.cell 2
    simp only [List.getElem?_toArray, List.getElem?_cons_zero, List.getElem?_cons_succ] at x2
    gi_wp2
    exact ⟨(KeepsOthers.setCell _ _ _).from _, (fun g hg => Below.heap_setCell _ _ _ _ (by have := hGn g hg; simpa using this)), ⟨⟨by rw [bytesW_snoc]; exact hN.set _, hP'.other (by omega) _⟩, hB.setCell (p := ⟨b, 0, none⟩) (by simp) _⟩⟩
  case done =>
    rintro D ys W hD rfl ⟨⟨hN, hP'⟩, hB⟩ hK
    have c0 := hN.cell
    gi_wp2
    refine ⟨by simp, .inl ⟨_, _, rfl, run_takeDeferred hK, ?_⟩⟩
    have hBw : Below w.heap.size w W := by rw [HB.out]; exact hB
    exact ⟨_, results_tmp rfl _ _ _, rfl, hBw.trans (belowK_b (w := w) (Nat.le_refl _) W D _ _ (by have := HB.out; omega) hK rfl rfl)⟩
  case stop =>
    rintro D cc pre W _ _ h _
    exact h.elim

theorem bytes_any {w : World} {S : Nat → Prop} {pb g : Nat} {m : MS} (hM : Md w S pb g m) :
    Calls Try.prog 39 #[.pointer (some ⟨g, 0, none⟩)] w fun e W' => e = .returned (.int .i64 (bytesW m.past)) ∧ Below w.heap.size w W' := by
  obtain ⟨sb, vs, vp, hM⟩ := hM
  exact (callsIn_wide (n := 6)).1 (bytes_in 6 (by omega) hM)
end Go.Proofs.Ytmbhfibldklecaa.mediums
