/- slices.Grow of none, slices.Concat of three lists of nodes. -/
import Derived.Test.YtnndohdiiglgmaaKTrAa
import Derived.Test.YtnndohdiiglgmaaKTrE
import Derived.Test.YtnndohdiiglgmaaKDlA
import Derived.Test.YtnndohdiiglgmaaKTrAh


namespace Go.Proofs.Ytnndohdiiglgmaa.trees
set_option linter.unusedVariables false
set_option linter.unusedSimpArgs false
open Go.RowKit Go.Proofs.Ytnndohdiiglgmaa.base Go.Proofs.Ytnndohdiiglgmaa.vers Go.Proofs.Ytnndohdiiglgmaa.nodes Go.Proofs.Ytnndohdiiglgmaa.quotas

set_option maxRecDepth 100000 in
set_option maxHeartbeats 4000000 in
theorem growN (n : Nat) (w : World) (hn : n * 56 ≤ 140737488355328) :
    Calls Try.prog 109 #[.slice none 0 0, .int .i64 (n : Int)] w fun e w' => ∃ v, e = .returned v ∧ w'.ownsRow w.heap.size 60 3 v 0 [] ∧ Below w.heap.size w w' := by
  obtain ⟨i0, hi0, hz0, hz1, hz2⟩ := info_parts infoN
  rcases Nat.eq_zero_or_pos n with rfl | hp
  · go_enter Try.func109, Try.ntmps109
    go_wp2_with fail
    go_ret
    exact ⟨_, rfl, ⟨rfl, .inl ⟨rfl, rfl⟩⟩, Below.refl _ _⟩
  · have hC := grownCap_ge w (0 + n) 0 60
    have hCm := grownCap_le_maxLen w (0 + n) 0 60 (by unfold maxLen; omega)
    have happ := fun ty => run_append_zeros w 105 3 ty 60 i0 _ .i64 .i64 Try.underlying105 Try.underlying3 hi0 hz0 none 0 0 [] (by rw [hz1]; exact run_firstCells_none w.drew 3 0 0 0) n hp (by rw [hz1]; omega) (by omega) (by omega) (by rw [hz2]; omega) (by rw [hz2]; exact growslice_fits (by omega) (by omega))
    have hzs := zeroCells_size
    generalize grownCap w (0 + n) 0 60 = C at happ hC hCm
    rw [Nat.zero_add] at happ hC
    obtain ⟨cur, hcur⟩ : ∃ cur, cur = (([] : List Value).toArray ++ Builtin.zeroCells (i0.zero.getD undef).cells n ++ Builtin.zeroCells (i0.zero.getD undef).cells (C - n)) := ⟨_, rfl⟩
    rw [hz0] at hcur
    simp only [Option.getD_some] at hcur
    rw [← hcur] at happ
    have hcs : cur.size = C * 3 := by
      have e : n + (C - n) = C := by omega
      rw [hcur]
      simp only [Array.size_append, zeroCells_size]
      rw [show (([] : List Value).toArray).size = 0 from rfl, Nat.zero_add, ← Nat.add_mul, e]
      rfl
    clear hcur hzs
    have kN := Blk.new w.drew 60 cur
    have bN : Below w.heap.size w (w.drew.alloc (.cells cur 60)) := (Below.refl _ _).drew.alloc (Nat.le_refl _) _
    have hout : (w.drew.alloc (.cells cur 60)).ownsRow w.heap.size 60 3 (.slice (some ⟨w.heap.size, 0, none⟩) 0 C) 0 [] := ⟨rfl, .inr ⟨w.heap.size, C, cur, rfl, Nat.le_refl _, kN, Nat.zero_le _, hCm, hcs, by simp⟩⟩
    have n1 : (0 : Int) < (n : Int) := by omega
    clear kN
    generalize w.drew.alloc (.cells cur 60) = w1 at happ bN hout
    go_enter Try.func109, Try.ntmps109
    go_wp2_with (at_builtin; refine wpList_append_known _ rfl _ _ _ _ rfl _ _ rfl rfl _ _ (happ _) ?_)
    go_ret
    exact ⟨_, rfl, hout, bN⟩

/-- what was put together so far -/
def CCN (w : World) (lo : Nat) (v : Value) (n : Nat) (xs : List Value) (wr : World) : Prop := wr.ownsRow 0 60 3 v n xs ∧ (∀ q, v.ownBlock = some q → lo ≤ q) ∧ Below lo w wr
theorem CCN.next {w w1 w2 : World} {v v' : Value} {n n' : Nat} {xs xs' : List Value} (h : CCN w w.heap.size v n xs w1) (ho : w2.ownsRow 0 60 3 v' n' xs') (hK : Keep (fun g => v.ownBlock = some g) w1 w2) (hv : ∀ g, v'.ownBlock = some g → v.ownBlock = some g ∨ (w1.heap.size ≤ g ∧ g < w2.heap.size)) : CCN w w.heap.size v' n' xs' w2 := by
  have s := h.2.2.size
  refine ⟨ho, fun q hq => ?_, h.2.2.trans (hK.below (fun g hg => h.2.1 g hg) s)⟩
  rcases hv q hq with h1 | h1
  · exact h.2.1 q h1
  · omega

set_option maxRecDepth 100000 in
set_option maxHeartbeats 4000000 in
theorem concatN (g : Nat) (A0 A1 A2 : Option Addr) (n0 n1 n2 c0 c1 c2 : Nat) (x0 x1 x2 : List Value) (F : Nat → Prop) (w : World) (kg : Blk w g 105 #[.slice A0 n0 c0, .slice A1 n1 c1, .slice A2 n2 c2])
    (h0 : Lst w F 3 A0 n0 c0 x0) (h1 : Lst w F 3 A1 n1 c1 x1) (h2 : Lst w F 3 A2 n2 c2 x2) (hF : ∀ g, F g → g < w.heap.size) (hn : (n0 + n1 + n2) * 56 ≤ 140737488355328) :
    Calls Try.prog 89 #[.slice (some ⟨g, 0, none⟩) 3 3] w fun e w' => ∃ v, e = .returned v ∧ w'.ownsRow w.heap.size 60 3 v (n0 + n1 + n2) (x0 ++ x1 ++ x2) ∧ Below w.heap.size w w' := by
  obtain ⟨i0, hi0, hz0, hz1, hz2⟩ := info_parts infoN
  have a0 := kg.cell 0
  have a1 := kg.cell 1
  have a2 := kg.cell 2
  simp at a0 a1 a2
  have lg := kg.lt
  have hgrow := growN (n0 + n1 + n2) w hn
  rw [show ((n0 + n1 + n2 : Nat) : Int) = (n0 : Int) + (n1 : Int) + (n2 : Int) by omega] at hgrow
  have w1 : IntKind.i64.wrap ((n0 : Int) + (n1 : Int)) = (n0 : Int) + (n1 : Int) := IntWalk.i64_in _ (by omega)
  have w2 : IntKind.i64.wrap ((n0 : Int) + (n1 : Int) + (n2 : Int)) = (n0 : Int) + (n1 : Int) + (n2 : Int) := IntWalk.i64_in _ (by omega)
  go_enter Try.func89, Try.ntmps89
  go_wp2_with fail
  go_loopw [3, 11] (fun s i wr => wr = w ∧ ((i = .int .i64 0 ∧ s = .int .i64 0) ∨ (i = .int .i64 1 ∧ s = .int .i64 (n0 : Int)) ∨ (i = .int .i64 2 ∧ s = .int .i64 ((n0 : Int) + (n1 : Int))) ∨ (i = .int .i64 3 ∧ s = .int .i64 ((n0 : Int) + (n1 : Int) + (n2 : Int))))) (fun _ i _ => 3 - (intOf i).toNat)
  case atStart => exact ⟨rfl, .inl ⟨rfl, rfl⟩⟩
  case round =>
    obtain ⟨rfl, hst⟩ := hrel
    rcases hst with ⟨rfl, rfl⟩ | ⟨rfl, rfl⟩ | ⟨rfl, rfl⟩ | ⟨rfl, rfl⟩
    · go_wp2_with fail
      exact ⟨⟨trivial, .inr (.inl ⟨rfl, rfl⟩)⟩, by simp [intOf]⟩
    · go_wp2_with fail
      exact ⟨⟨trivial, .inr (.inr (.inl ⟨rfl, rfl⟩))⟩, by simp [intOf]⟩
    · go_wp2_with fail
      exact ⟨⟨trivial, .inr (.inr (.inr ⟨rfl, rfl⟩))⟩, by simp [intOf]⟩
    · go_wp2_with fail
      refine hgrow.mono ?_
      rintro e w5 ⟨v5, rfl, ho5, hb5⟩
      have kg5 := kg.below hb5 kg.lt
      have hst : CCN wr wr.heap.size v5 0 [] w5 := ⟨ownsRow_base ho5 (fun q hq => Nat.zero_le _), fun q hq => (ho5.lt q hq).1, hb5⟩
      clear ho5 hgrow w1 w2
      go_wp2_with fail
      go_loopw [6, 27] (fun v i wx => (i = .int .i64 0 ∧ CCN wr wr.heap.size v 0 [] wx) ∨ (i = .int .i64 1 ∧ CCN wr wr.heap.size v n0 x0 wx) ∨ (i = .int .i64 2 ∧ CCN wr wr.heap.size v (n0 + n1) (x0 ++ x1) wx) ∨ (i = .int .i64 3 ∧ CCN wr wr.heap.size v (n0 + n1 + n2) (x0 ++ x1 ++ x2) wx)) (fun _ i _ => 3 - (intOf i).toNat)
      case atStart => exact .inl ⟨rfl, hst⟩
      case round =>
        clear hst
        rcases hrel with ⟨rfl, hC⟩ | ⟨rfl, hC⟩ | ⟨rfl, hC⟩ | ⟨rfl, hC⟩
        · have kgx := kg.below hC.2.2 kg.lt
          have a0 := kgx.cell 0
          have a1 := kgx.cell 1
          have a2 := kgx.cell 2
          simp at a0 a1 a2
          have lg := kgx.lt
          have hA := h0.agree (Agree.of_below hC.2.2 hF)
          go_wp2_with (at_builtin; refine wpList_bulk Try.underlying105 hi0 hz0 hz1 hz2 rfl (by decide) rfl (.tmp 31) (.tmp 32) rfl hC.1 rfl (m := n0) hA.len hA.rd.rd hA.nil hA.cap hA.one rfl (by omega) (by unfold maxLen; omega) ?_; intro v9 w9 ho9 hK9 hv9)
          refine ⟨.inr (.inl ⟨rfl, ?_⟩), by simp [intOf]⟩
          exact CCN.next hC (by simpa using ho9) hK9 hv9
        · have kgx := kg.below hC.2.2 kg.lt
          have a0 := kgx.cell 0
          have a1 := kgx.cell 1
          have a2 := kgx.cell 2
          simp at a0 a1 a2
          have lg := kgx.lt
          have hA := h1.agree (Agree.of_below hC.2.2 hF)
          go_wp2_with (at_builtin; refine wpList_bulk Try.underlying105 hi0 hz0 hz1 hz2 rfl (by decide) rfl (.tmp 31) (.tmp 32) rfl hC.1 rfl (m := n1) hA.len hA.rd.rd hA.nil hA.cap hA.one rfl (by omega) (by unfold maxLen; omega) ?_; intro v9 w9 ho9 hK9 hv9)
          refine ⟨.inr (.inr (.inl ⟨rfl, ?_⟩)), by simp [intOf]⟩
          exact CCN.next hC (ho9) hK9 hv9
        · have kgx := kg.below hC.2.2 kg.lt
          have a0 := kgx.cell 0
          have a1 := kgx.cell 1
          have a2 := kgx.cell 2
          simp at a0 a1 a2
          have lg := kgx.lt
          have hA := h2.agree (Agree.of_below hC.2.2 hF)
          go_wp2_with (at_builtin; refine wpList_bulk Try.underlying105 hi0 hz0 hz1 hz2 rfl (by decide) rfl (.tmp 31) (.tmp 32) rfl hC.1 rfl (m := n2) hA.len hA.rd.rd hA.nil hA.cap hA.one rfl (by omega) (by unfold maxLen; omega) ?_; intro v9 w9 ho9 hK9 hv9)
          refine ⟨.inr (.inr (.inr ⟨rfl, ?_⟩)), by simp [intOf]⟩
          exact CCN.next hC (ho9) hK9 hv9
        · go_wp2_with fail
          go_ret
          obtain ⟨h1', h2', h3'⟩ := hC
          exact ⟨_, rfl, ownsRow_base h1' h2', h3'⟩

end Go.Proofs.Ytnndohdiiglgmaa.trees

/- join. -/

namespace Go.Proofs.Ytnndohdiiglgmaa.trees
set_option linter.unusedVariables false
set_option linter.unusedSimpArgs false
open Go.RowKit Go.Shelf Go.Proofs.Ytnndohdiiglgmaa.base Go.Proofs.Ytnndohdiiglgmaa.vers Go.Proofs.Ytnndohdiiglgmaa.nodes Go.Proofs.Ytnndohdiiglgmaa.quotas
theorem keep_setd {w0 wr : World} {P : Nat → Prop} (h1 : Keep P w0 wr) {b : Nat} (hb : P b) (o : Nat) (u : Value) : Keep P w0 (wr.setCell ⟨b, o, none⟩ u) :=
  ⟨h1.os, h1.tape, h1.output, by simpa using h1.size, fun k hk hn => by
    rw [Below.heap_setCell _ _ _ _ (fun e => hn (by rw [e]; exact hb))]
    exact h1.block k hk hn⟩
theorem lst_ns {w : World} {F : Nat → Prop} {l : List N} {A : Option Addr} {c : Nat} (h : LF w F l A c) : Lst w F 3 A l.length c (cellsN l) := ⟨by rw [cellsN_len]; omega, h.1, h.2.2.1, h.2.2.2.1, cellsN_one l⟩
theorem flat_leJ {α : Type} {f : N → List α} {n : Nat} (l : List N) (h : ∀ x ∈ l, (f x).length ≤ 1000) (hn : l.length ≤ n) : (l.flatMap f).length ≤ n * 1000 := by
  induction l generalizing n with
  | nil => simp
  | cons x l ih =>
    have h1 := h x List.mem_cons_self
    rw [List.length_cons] at hn
    have h2 := ih (n := n - 1) (fun y hy => h y (List.mem_cons_of_mem _ hy)) (by omega)
    rw [List.flatMap_cons, List.length_append]
    omega
theorem parts_n (x : N) (w : World) : Calls Try.prog 86 #[.agg #[.bool x.lf, .slice x.A x.es.length x.c, .slice x.Q x.ks.length x.m]] w fun e w' => e = .returned (.int .i64 ((partsP x.p : Nat) : Int)) ∧ Below w.heap.size w w' := by
  obtain ⟨lf, es, ks, A, c, Q, m⟩ := x
  cases lf with
  | true =>
    have e : partsP (N.p ⟨true, es, ks, A, c, Q, m⟩) = es.length := by simp [partsP, N.p]
    rw [e]; exact parts_true A es.length c Q ks.length m w
  | false =>
    have e : partsP (N.p ⟨false, es, ks, A, c, Q, m⟩) = ks.length := by simp [partsP, N.p]
    rw [e]; exact parts_false A es.length c Q ks.length m w
theorem halves_n (x : N) (F : Nat → Prop) (w : World) (hx : NsF w F x) (hF : ∀ g, F g → g < w.heap.size) (h2 : 2 ≤ partsP x.p) :
    Calls Try.prog 90 #[.agg #[.bool x.lf, .slice x.A x.es.length x.c, .slice x.Q x.ks.length x.m]] w (NPost w F (halvesP x.p)) := by
  obtain ⟨lf, es, ks, A, c, Q, m⟩ := x
  cases lf with
  | true => exact halves_true es ks A c Q m F w hx.1 hx.2 hF (by simpa [partsP, N.p] using h2)
  | false => exact halves_false es ks A c Q m F w hx.1 hx.2 hF (by simpa [partsP, N.p] using h2)
theorem oneOf_p (lf : Bool) (l : List N) (A Q : Option Addr) (c m : Nat) : N.p ⟨lf, l.flatMap (·.es), l.flatMap (·.ks), A, c, Q, m⟩ = oneOf lf (l.map N.p) := by
  simp [N.p, oneOf, List.map_flatMap, List.flatMap_map]
/-- one so far: its box, its two rows -/
structure JI (w5 : World) (gO : Nat) (lf : Bool) (l : List N) (j : Nat) (wr : World) : Prop where
  below : Below w5.heap.size w5 wr
  ex : ∃ ve vk, Blk wr gO 60 #[.bool lf, ve, vk] ∧ wr.ownsRow 0 47 2 ve ((l.take j).flatMap (·.es)).length (cellsE ((l.take j).flatMap (·.es))) ∧ wr.ownsRow 0 66 5 vk ((l.take j).flatMap (·.ks)).length (cellsK ((l.take j).flatMap (·.ks))) ∧
    (∀ g, ve.ownBlock = some g → w5.heap.size ≤ g ∧ g ≠ gO) ∧ (∀ g, vk.ownBlock = some g → w5.heap.size ≤ g ∧ g ≠ gO ∧ ve.ownBlock ≠ some g)

set_option maxRecDepth 100000 in
set_option maxHeartbeats 8000000 in
theorem join_any (y : N) (la lb : List N) (Aa Ab : Option Addr) (ca cb : Nat) (xl : Bool) (XA XQ : Option Addr) (xn xc xm xd i : Nat) (F : Nat → Prop) (w : World) (hy : NsF w F y) (hA : LF w F la Aa ca) (hB : LF w F lb Ab cb) (hF : ∀ g, F g → g < w.heap.size)
    (hk : ∀ x ∈ la ++ [y] ++ lb, x.es.length ≤ 1000 ∧ x.ks.length ≤ 1000) (hn : la.length + lb.length ≤ 1) :
    Calls Try.prog 52 #[.agg #[.bool xl, .slice XA xn xc, .slice XQ xm xd, .int .i64 (i : Int), .slice Aa la.length ca, .slice Ab lb.length cb], y.val] w (NPost w F (joinP (la.map N.p) y.p (lb.map N.p))) := by
  obtain ⟨lf, es, ks, A, c, Q, m⟩ := y
  obtain ⟨bb, bs, k0, k1, k2, k3⟩ := boxes4 w 134 60 60 105 #[.bool xl, .slice XA xn xc, .slice XQ xm xd, .int .i64 (i : Int), .slice Aa la.length ca, .slice Ab lb.length cb] #[.bool lf, .slice A es.length c, .slice Q ks.length m] #[.bool lf, .slice A es.length c, .slice Q ks.length m] #[.slice Aa la.length ca, .slice (some ⟨w.heap.size + 1 + 1, 0, none⟩) 1 1, .slice Ab lb.length cb] _ rfl
  generalize hW4 : (((w.alloc (.cells #[.bool xl, .slice XA xn xc, .slice XQ xm xd, .int .i64 (i : Int), .slice Aa la.length ca, .slice Ab lb.length cb] 134)).alloc (.cells #[.bool lf, .slice A es.length c, .slice Q ks.length m] 60)).alloc (.cells #[.bool lf, .slice A es.length c, .slice Q ks.length m] 60)).alloc (.cells #[.slice Aa la.length ca, .slice (some ⟨w.heap.size + 1 + 1, 0, none⟩) 1 1, .slice Ab lb.length cb] 105) = w4 at *
  have hF4 : ∀ g, F g ∨ g = w.heap.size + 1 + 1 → g < w4.heap.size := fun g hg => by
    rcases hg with hg | hg
    · have := hF g hg; omega
    · omega
  have hA4 := hA.agree (Agree.of_below bb hF)
  have hB4 := hB.agree (Agree.of_below bb hF)
  have hy4 := hy.agree (Agree.of_below bb hF)
  have h1 : Lst w4 (fun g => F g ∨ g = w.heap.size + 1 + 1) 3 (some ⟨w.heap.size + 1 + 1, 0, none⟩) 1 1 (N.mk lf es ks A c Q m).cells := ⟨rfl, Nat.le_refl _, (fun e => by cases e), fun j u hj => ⟨_, 0, rfl, .inr rfl, by rw [Nat.zero_add, k2.cell]; simpa [N.cells] using hj⟩, by intro u hu; simp [N.cells] at hu; rcases hu with rfl | rfl | rfl <;> rfl⟩
  have hcat := concatN (w.heap.size + 1 + 1 + 1) Aa (some ⟨w.heap.size + 1 + 1, 0, none⟩) Ab la.length 1 lb.length ca 1 cb (cellsN la) _ (cellsN lb) (fun g => F g ∨ g = w.heap.size + 1 + 1) w4 k3
    ⟨(lst_ns hA4).len, hA4.1, hA4.2.2.1, (lst_ns hA4).rd.mono fun g hg => .inl hg, cellsN_one la⟩ h1 ⟨(lst_ns hB4).len, hB4.1, hB4.2.2.1, (lst_ns hB4).rd.mono fun g hg => .inl hg, cellsN_one lb⟩ hF4 (by omega)
  obtain ⟨l, hl⟩ : ∃ l : List N, l = la ++ [⟨lf, es, ks, A, c, Q, m⟩] ++ lb := ⟨_, rfl⟩
  have hcl : cellsN la ++ (N.mk lf es ks A c Q m).cells ++ cellsN lb = cellsN l := by rw [hl, cellsN_app, cellsN_app]; simp [cellsN]
  have hll : la.length + 1 + lb.length = l.length := by rw [hl]; simp; omega
  have hlN : ∀ x ∈ l, NsF w4 F x := fun x hx => by
    rw [hl] at hx
    simp only [List.mem_append, List.mem_singleton] at hx
    rcases hx with (hx | hx) | hx
    · exact hA4.2.2.2.2 x hx
    · rw [hx]; exact hy4
    · exact hB4.2.2.2.2 x hx
  rw [hcl, hll] at hcat
  have HLN := vers.lay hlN
  have HK := vers.lay hk
  have HL := vers.lay hl
  have HLL := vers.lay hll
  have a0 := k0.cell 0
  have a1 := k0.cell 1
  have a2 := k0.cell 2
  have a3 := k0.cell 3
  have a4 := k0.cell 4
  have a5 := k0.cell 5
  simp only [List.getElem?_toArray, List.getElem?_cons_zero, List.getElem?_cons_succ] at a0 a1 a2 a3 a4 a5
  have b0 := k1.cell 0
  have b1 := k1.cell 1
  have b2 := k1.cell 2
  simp only [List.getElem?_toArray, List.getElem?_cons_zero, List.getElem?_cons_succ] at b0 b1 b2
  have l0 := k0.lt
  have l1 := k1.lt
  clear hA hB hy hA4 hB4 hy4 h1 hF4 hcl hlN hk k2 k3 hl hll
  go_enter Try.func52, Try.ntmps52
  go_wp2_with fail
  refine hcat.mono ?_
  rintro e w5 ⟨v, rfl, ho, hb5⟩
  clear hcat
  obtain ⟨Av, cv, rfl, hv1, hv2, hv3⟩ := row_rdF ho
  by_cases hone : l.length = 1
  · have HONE := vers.lay hone
    have d1 : (((l.length : Nat) : Int) == 1) = true := by rw [beq_iff_eq]; omega
    have hb := bb.trans (hb5.mono bb.size)
    have hNP : NPost w F (joinP (la.map N.p) (N.mk lf es ks A c Q m).p (lb.map N.p)) (.returned (.slice Av l.length cv)) w5 := by
      have hla : la = [] := List.eq_nil_of_length_eq_zero (by have := HLL.out; omega)
      have hlb : lb = [] := List.eq_nil_of_length_eq_zero (by have := HLL.out; omega)
      have hl := HL.out
      refine ⟨l, Av, cv, rfl, ?_, ⟨hv1, by omega, hv2, hv3.mono (fun g hg => .inr ⟨Nat.le_trans bb.size (ho.lt g hg).1, (ho.lt g hg).2⟩), fun x hx => ((HLN.out x hx).agree (Agree.of_below hb5 (fun g hg => by have := hF g hg; have := bb.size; omega))).mono fun g hg => .inl hg⟩, hb⟩
      rw [hl, hla, hlb]
      rfl
    clear hv1 hv2 hv3 ho d1 hone
    obtain ⟨ln, hln⟩ : ∃ ln, ln = l.length := ⟨_, rfl⟩
    rw [← hln] at hNP ⊢
    have d2 : ((ln : Int) == 1) = true := by rw [beq_iff_eq]; have := HONE.out; omega
    clear hln
    go_wp2_with fail
    go_ret
    exact hNP
  · have d1 : (((l.length : Nat) : Int) == 1) = false := by rw [beq_eq_false_iff_ne]; omega
    have kY := k1.below hb5 l1
    have e0 := kY.cell 0
    simp only [List.getElem?_toArray, List.getElem?_cons_zero] at e0
    have lY := kY.lt
    clear a0 a1 a2 a3 a4 a5 b0 b1 b2
    have hLF : LF w5 (fun g => F g ∨ g < w5.heap.size) l Av cv := ⟨hv1, by have := HLL.out; omega, hv2, hv3.mono (fun g hg => .inr (ho.lt g hg).2), fun x hx => ((HLN.out x hx).agree (Agree.of_below hb5 (fun g hg => by have := hF g hg; have := bb.size; omega))).mono fun g hg => .inl hg⟩
    have hF5 : ∀ g, F g → g < w5.heap.size := fun g hg => by have := hF g hg; have := bb.size; have := hb5.size; omega
    have HLF := vers.lay hLF
    have HF5 := vers.lay hF5
    clear hLF hF5 hv1 hv2 hv3 ho
    have bO : Below w5.heap.size w5 (w5.alloc (.cells #[.bool lf, .slice none 0 0, .slice none 0 0] 60)) := (Below.refl _ _).alloc (Nat.le_refl _) _
    have kO := Blk.new w5 60 #[.bool lf, .slice none 0 0, .slice none 0 0]
    have lO : w5.heap.size < (w5.alloc (.cells #[.bool lf, .slice none 0 0, .slice none 0 0] 60)).heap.size := by simp
    have hJ : JI w5 w5.heap.size lf l 0 (w5.alloc (.cells #[.bool lf, .slice none 0 0, .slice none 0 0] 60)) := ⟨bO, _, _, kO, ⟨rfl, .inl ⟨rfl, rfl⟩⟩, ⟨rfl, .inl ⟨rfl, rfl⟩⟩, (fun g hg => by cases hg), (fun g hg => by cases hg)⟩
    have HJ := vers.lay hJ
    clear hJ
    go_wp2_with fail
    go_loopw [26] (fun i wr => ∃ j : Nat, j ≤ l.length ∧ i = .int .i64 (j : Int) ∧ JI w5 w5.heap.size lf l j wr) (fun i _ => l.length - (intOf i).toNat)
    case atStart => exact ⟨0, Nat.zero_le _, rfl, HJ.out⟩
    case round =>
      clear HJ bO kO lO
      obtain ⟨j, hj, rfl, hI⟩ := hrel
      by_cases hlt : j < l.length
      · obtain ⟨hbw, ve, vk, kO, hre, hrk, hoe, hok⟩ := hI
        have hlr : LF wr (fun g => F g ∨ g < w5.heap.size) l Av cv := HLF.out.agree (Agree.of_below hbw (fun g hg => hg.elim (HF5.out g) id))
        obtain ⟨bk, off, rfl, hbk, e0, e1, e2⟩ := hlr.ns.at_ hlt
        have hx := hlr.2.2.2.2 _ (List.getElem_mem hlt)
        have hkx := HK.out l[j] (by rw [← HL.out]; exact List.getElem_mem hlt)
        have tE : (l.take (j + 1)).flatMap (·.es) = (l.take j).flatMap (·.es) ++ l[j].es := by rw [List.take_succ_eq_append_getElem hlt, List.flatMap_append]; simp
        have tK : (l.take (j + 1)).flatMap (·.ks) = (l.take j).flatMap (·.ks) ++ l[j].ks := by rw [List.take_succ_eq_append_getElem hlt, List.flatMap_append]; simp
        have bE : ((l.take j).flatMap (·.es)).length ≤ j * 1000 := flat_leJ _ (fun x hx => (HK.out x (by rw [← HL.out]; exact List.mem_of_mem_take hx)).1) (by simp; omega)
        have bK : ((l.take j).flatMap (·.ks)).length ≤ j * 1000 := flat_leJ _ (fun x hx => (HK.out x (by rw [← HL.out]; exact List.mem_of_mem_take hx)).2) (by simp; omega)
        have hl3 : l.length ≤ 2 := by have := HLL.out; omega
        generalize (l.take j).flatMap (·.es) = Ej at *
        generalize (l.take j).flatMap (·.ks) = Kj at *
        generalize l[j] = x at *
        obtain ⟨xlf, xes, xks, xA, xc2, xQ, xm2⟩ := x
        simp only [] at e0 e1 e2 hkx tE tK
        have bX : Below wr.heap.size wr (wr.alloc (.cells #[.bool xlf, .slice xA xes.length xc2, .slice xQ xks.length xm2] 60)) := (Below.refl _ _).alloc (Nat.le_refl _) _
        have kX := Blk.new wr 60 #[.bool xlf, .slice xA xes.length xc2, .slice xQ xks.length xm2]
        have kOX := kO.below bX kO.lt
        have hreX := row_below hre bX
        have hrkX := row_below hrk bX
        have hxX : NsF (wr.alloc (.cells #[.bool xlf, .slice xA xes.length xc2, .slice xQ xks.length xm2] 60)) (fun g => F g ∨ g < w5.heap.size) ⟨xlf, xes, xks, xA, xc2, xQ, xm2⟩ := hx.agree (Agree.of_below bX (fun g hg => hg.elim (fun h => by have := HF5.out g h; have := hbw.size; omega) (fun h => by have := hbw.size; omega)))
        have lre := hre.lt
        have lrk := hrk.lt
        have lO := kO.lt
        have hbX := hbw.trans (bX.mono hbw.size)
        have lXw : wr.heap.size < (wr.alloc (.cells #[.bool xlf, .slice xA xes.length xc2, .slice xQ xks.length xm2] 60)).heap.size := by simp
        generalize hWX : wr.alloc (.cells #[.bool xlf, .slice xA xes.length xc2, .slice xQ xks.length xm2] 60) = WX at *
        have o0 := kOX.cell 0
        have o1 := kOX.cell 1
        have o2 := kOX.cell 2
        simp only [List.getElem?_toArray, List.getElem?_cons_zero, List.getElem?_cons_succ] at o0 o1 o2
        have x0 := kX.cell 0
        have x1 := kX.cell 1
        have x2 := kX.cell 2
        simp only [List.getElem?_toArray, List.getElem?_cons_zero, List.getElem?_cons_succ] at x0 x1 x2
        have lOX := kOX.lt
        obtain ⟨i0, hi0, hz0, hz1, hz2⟩ := info_parts infoE
        obtain ⟨q0, hq0, hy0, hy1, hy2⟩ := info_parts infoK
        obtain ⟨cE1, cE2, cE3, cE4, _⟩ := hxX.1
        obtain ⟨cK1, cK2, cK3, cK4, _⟩ := hxX.2
        simp only [] at cE1 cE2 cE3 cE4 cK1 cK2 cK3 cK4
        have nO : wr.heap.size ≠ w5.heap.size := by omega
        have lreX := hreX.lt
        have lrkX := hrkX.lt
        have lX := kX.lt
        have hmx : ∀ g, F g ∨ g < w5.heap.size → g < w5.heap.size := fun g hg => hg.elim (HF5.out g) id
        clear hx
        go_wp2_with (first
          | (at_builtin; refine wpList_bulk Try.underlying57 hi0 hz0 hz1 hz2 rfl (by decide) rfl (.tmp 31) (.tmp 33) rfl hreX rfl (m := xes.length) (by rw [cellsE_len]; omega) cE4.rd cE3 cE1 (cellsE_one xes) rfl (by omega) (by unfold maxLen; omega) ?_
             intro v8 w8 ho8 hK8 hv8
             obtain ⟨A8, c8, rfl, _, _, _⟩ := row_rdF ho8
             have kO8 := hK8.blk kOX (fun hs => (hoe _ hs).2 rfl)
             have kX8 := hK8.blk kX (fun hs => by have := lre _ hs; omega)
             have f1 := kO8.frozen 1
             have o1 := kO8.cell 1
             have o2 := kO8.cell 2
             have x2 := kX8.cell 2
             simp only [List.getElem?_toArray, List.getElem?_cons_zero, List.getElem?_cons_succ] at o1 o2 x2
             have lO8 := kO8.lt
             have lX8 := kX8.lt
             have kp := kO8.put 1 (.slice A8 (Ej.length + xes.length) c8)
             simp only [List.setIfInBounds_toArray, List.set_cons_zero, List.set_cons_succ] at kp
             have n8 : ∀ g, (Value.slice A8 (Ej.length + xes.length) c8).ownBlock = some g → w5.heap.size ≤ g ∧ g ≠ w5.heap.size := fun g hg => (hv8 g hg).elim (fun h => hoe g h) (fun h => by omega)
             have ho8s := ownsRow_agree ho8 (w' := (w8.setCell ⟨w5.heap.size, 1, none⟩ (.slice A8 (Ej.length + xes.length) c8))) (fun g hg => Below.heap_setCell _ _ _ _ (n8 g hg).2)
             have hrk8 := ownsRow_agree hrkX (w' := (w8.setCell ⟨w5.heap.size, 1, none⟩ (.slice A8 (Ej.length + xes.length) c8))) (fun g hg => (Below.heap_setCell _ _ _ _ (hok g hg).2.1).trans (hK8.block g (lrkX g hg).2 (fun h => (hok g hg).2.2 h)))
             have cK8 := cK4.agree (w' := (w8.setCell ⟨w5.heap.size, 1, none⟩ (.slice A8 (Ej.length + xes.length) c8))) (fun g hg => (Below.heap_setCell _ _ _ _ (fun e => by have := hmx g hg; have e' : g = w5.heap.size := e; omega)).trans (hK8.block g (by have := hmx g hg; omega) (fun h => by have := hmx g hg; have := (hoe g h).1; omega)))
             have KK8 : Keep (fun g => w5.heap.size ≤ g) w5 (w8.setCell ⟨w5.heap.size, 1, none⟩ (.slice A8 (Ej.length + xes.length) c8)) := keep_setd ((Keep.of_below hbX).trans hK8 (fun g h _ => (hoe g h).1)) (Nat.le_refl _) 1 (.slice A8 (Ej.length + xes.length) c8)
             have z8 : (w8.setCell ⟨w5.heap.size, 1, none⟩ (.slice A8 (Ej.length + xes.length) c8)).heap.size = w8.heap.size := by simp
             have z8x := hK8.size)
          | (at_builtin; refine wpList_bulk Try.underlying58 hq0 hy0 hy1 hy2 rfl (by decide) rfl (.tmp 37) (.tmp 39) rfl hrk8 rfl (m := xks.length) (by rw [cellsK_len]; omega) cK8.rd cK3 cK1 (cellsK_one xks) rfl (by omega) (by unfold maxLen; omega) ?_
             intro v9 w9 ho9 hK9 hv9
             obtain ⟨A9, c9, rfl, _, _, _⟩ := row_rdF ho9
             have kO9 := hK9.blk kp (fun hs => (hok _ hs).2.1 rfl)
             have f2 := kO9.frozen 2
             have y2 := kO9.cell 2
             simp only [List.getElem?_toArray, List.getElem?_cons_zero, List.getElem?_cons_succ] at y2
             have lO9 := kO9.lt
             have kq := kO9.put 2 (.slice A9 (Kj.length + xks.length) c9)
             simp only [List.setIfInBounds_toArray, List.set_cons_zero, List.set_cons_succ] at kq
             have KK9 := keep_setd (KK8.trans hK9 (fun g h _ => (hok g h).1)) (Nat.le_refl w5.heap.size) 2 (.slice A9 (Kj.length + xks.length) c9)
             have q8 : ∀ g, (Value.slice A8 (Ej.length + xes.length) c8).ownBlock = some g → vk.ownBlock ≠ some g := fun g hg h => (hv8 g hg).elim (fun h2 => (hok g h).2.2 h2) (fun h2 => by have := lrkX g h; omega)
             have n9 : ∀ g, (Value.slice A9 (Kj.length + xks.length) c9).ownBlock = some g → w5.heap.size ≤ g ∧ g ≠ w5.heap.size ∧ (Value.slice A8 (Ej.length + xes.length) c8).ownBlock ≠ some g := fun g hg => (hv9 g hg).elim (fun h => ⟨(hok g h).1, (hok g h).2.1, fun h2 => q8 g h2 h⟩) (fun h => ⟨by omega, by omega, fun h2 => by have := ho8.lt g h2; omega⟩)
             have rE := ownsRow_agree ho8s (w' := w9.setCell ⟨w5.heap.size, 2, none⟩ (.slice A9 (Kj.length + xks.length) c9)) (fun g hg => (Below.heap_setCell _ _ _ _ (n8 g hg).2).trans (hK9.block g (by rw [z8]; exact (ho8.lt g hg).2) (q8 g hg)))
             have rK := ownsRow_agree ho9 (w' := w9.setCell ⟨w5.heap.size, 2, none⟩ (.slice A9 (Kj.length + xks.length) c9)) (fun g hg => Below.heap_setCell _ _ _ _ (n9 g hg).2.1)))
        refine ⟨⟨j + 1, hlt, by go_num, KK9.below (fun g h => h) (Nat.le_refl _), (.slice A8 (Ej.length + xes.length) c8), (.slice A9 (Kj.length + xks.length) c9), kq, ?_, ?_, n8, n9⟩, by first | (simp [intOf]; done) | (simp [intOf]; omega) | omega⟩
        · rw [tE, List.length_append, cellsE_app]; exact rE
        · rw [tK, List.length_append, cellsK_app]; exact rK
      · obtain rfl : j = l.length := by omega
        obtain ⟨hbw, ve, vk, kO, hre, hrk, hoe, hok⟩ := hI
        rw [List.take_length] at hre hrk
        have bE := flat_leJ (f := (·.es)) (n := l.length) l (fun x hx => (HK.out x (by rw [← HL.out]; exact hx)).1) (Nat.le_refl _)
        have bK := flat_leJ (f := (·.ks)) (n := l.length) l (fun x hx => (HK.out x (by rw [← HL.out]; exact hx)).2) (Nat.le_refl _)
        have hl3 : l.length ≤ 2 := by have := HLL.out; omega
        obtain ⟨Ae, ce, rfl, re1, re2, re3⟩ := row_rdF hre
        obtain ⟨Ak, ck, rfl, rk1, rk2, rk3⟩ := row_rdF hrk
        have hbw0 := bb.trans (hb5.mono bb.size)
        have hbz := hbw0.trans (hbw.mono hbw0.size)
        have hmem : ∀ x ∈ l, NsF wr F x := fun x hx => (HLN.out x hx).agree (Agree.of_below (hb5.trans (hbw.mono hb5.size)) (fun g hg => by have := hF g hg; have := bb.size; omega))
        have hNs : NsF wr (fun g => F g ∨ (w.heap.size ≤ g ∧ g < wr.heap.size)) ⟨lf, l.flatMap (·.es), l.flatMap (·.ks), Ae, ce, Ak, ck⟩ :=
          ⟨⟨re1, by show (l.flatMap (·.es)).length * 40 ≤ _; omega, re2, re3.mono (fun g hg => .inr ⟨Nat.le_trans hbw0.size (hoe g hg).1, (hre.lt g hg).2⟩), fun x hx => by
            obtain ⟨n, hn1, hn2⟩ := List.mem_flatMap.1 hx
            have := (hmem n hn1).1.2.2.2.2 x hn2
            exact ⟨this.1.mono fun g hg => .inl hg, this.2⟩⟩,
          ⟨rk1, by show (l.flatMap (·.ks)).length * 48 ≤ _; omega, rk2, rk3.mono (fun g hg => .inr ⟨Nat.le_trans hbw0.size (hok g hg).1, (hrk.lt g hg).2⟩), fun x hx => by
            obtain ⟨n, hn1, hn2⟩ := List.mem_flatMap.1 hx
            exact (hmem n hn1).2.2.2.2.2 x hn2⟩⟩
        have hop := oneOf_p lf l Ae Ak ce ck
        have hjp : joinP (la.map N.p) (N.mk lf es ks A c Q m).p (lb.map N.p) = if partsP (N.p ⟨lf, l.flatMap (·.es), l.flatMap (·.ks), Ae, ce, Ak, ck⟩) ≤ 3 then [N.p ⟨lf, l.flatMap (·.es), l.flatMap (·.ks), Ae, ce, Ak, ck⟩] else halvesP (N.p ⟨lf, l.flatMap (·.es), l.flatMap (·.ks), Ae, ce, Ak, ck⟩) := by
          unfold joinP
          rw [if_neg (by have := HLL.out; simp only [List.length_map]; omega), hop, HL.out]
          simp only [List.map_append, List.map_cons, List.map_nil]
          rfl
        have HJP := vers.lay hjp
        clear hjp hop hre hrk hoe hok re1 re2 re3 rk1 rk2 rk3 hmem bE bK hl3
        generalize l.flatMap (·.es) = E9 at *
        generalize l.flatMap (·.ks) = K9 at *
        have hpart := fun W => parts_n ⟨lf, E9, K9, Ae, ce, Ak, ck⟩ W
        have hhalf := fun W (hW : Below wr.heap.size wr W) => halves_n ⟨lf, E9, K9, Ae, ce, Ak, ck⟩ (fun g => F g ∨ (w.heap.size ≤ g ∧ g < wr.heap.size)) W (hNs.agree (Agree.of_below hW (fun g hg => hg.elim (fun h => by have := hF g h; have := hbz.size; omega) (fun h => h.2)))) (fun g hg => hg.elim (fun h => by have := hF g h; have := hbz.size; have := hW.size; omega) (fun h => Nat.lt_of_lt_of_le h.2 hW.size))
        have HNS := vers.lay hNs
        clear hNs
        simp only [] at hpart hhalf
        generalize hop9 : N.p ⟨lf, E9, K9, Ae, ce, Ak, ck⟩ = op at *
        have HOP := vers.lay hop9
        clear hop9
        have o0 := kO.cell 0
        have o1 := kO.cell 1
        have o2 := kO.cell 2
        simp only [List.getElem?_toArray, List.getElem?_cons_zero, List.getElem?_cons_succ] at o0 o1 o2
        have lO := kO.lt
        go_wp2_with fail
        refine (hpart _).mono ?_
        rintro e w6 ⟨rfl, hb6⟩
        have kO6 := kO.below hb6 lO
        clear o0 o1 o2 hpart
        have o0 := kO6.cell 0
        have o1 := kO6.cell 1
        have o2 := kO6.cell 2
        simp only [List.getElem?_toArray, List.getElem?_cons_zero, List.getElem?_cons_succ] at o0 o1 o2
        have lO6 := kO6.lt
        by_cases h3 : partsP op ≤ 3
        · have h3' : decide (((partsP op : Nat) : Int) ≤ 3) = true := decide_eq_true (by omega)
          have hb06 := hbz.trans (hb6.mono hbz.size)
          have bR : Below w6.heap.size w6 (w6.alloc (.cells #[.bool lf, .slice Ae E9.length ce, .slice Ak K9.length ck] 60)) := (Below.refl _ _).alloc (Nat.le_refl _) _
          have kR := Blk.new w6 60 #[.bool lf, .slice Ae E9.length ce, .slice Ak K9.length ck]
          have hres : NPost w F (joinP (la.map N.p) (N.mk lf es ks A c Q m).p (lb.map N.p)) (.returned (.slice (some ⟨w6.heap.size, 0, none⟩) 1 1)) (w6.alloc (.cells #[.bool lf, .slice Ae E9.length ce, .slice Ak K9.length ck] 60)) := by
            rw [HJP.out, if_pos h3]
            refine ⟨[⟨lf, E9, K9, Ae, ce, Ak, ck⟩], some ⟨w6.heap.size, 0, none⟩, 1, rfl, by rw [List.map_singleton, HOP.out], ⟨Nat.le_refl _, by simp, (fun e => by cases e), fun j u hj => ⟨w6.heap.size, 0, rfl, .inr ⟨hb06.size, by simp⟩, by rw [Nat.zero_add, kR.cell]; simpa [cellsN, N.cells] using hj⟩, fun x hx => ?_⟩, hb06.trans (bR.mono hb06.size)⟩
            rw [List.mem_singleton.1 hx]
            refine (HNS.out.agree (Agree.of_below (hb6.trans (bR.mono hb6.size)) (fun g hg => hg.elim (fun h => by have := hF g h; have := hbz.size; omega) (fun h => h.2)))).mono fun g hg => ?_
            rcases hg with hg | hg
            · exact .inl hg
            · have := hb6.size
              exact .inr ⟨hg.1, by simp; omega⟩
          clear kR bR
          go_wp2_with fail
          go_ret
          exact hres
        · have h3' : decide (((partsP op : Nat) : Int) ≤ 3) = false := decide_eq_false (by omega)
          go_wp2_with fail
          refine (hhalf _ hb6 (by omega)).mono ?_
          rintro e w7 ⟨l9, A9, c9, rfl, p1, p2, p3⟩
          have hb06 := hbz.trans (hb6.mono hbz.size)
          have hres : NPost w F (joinP (la.map N.p) (N.mk lf es ks A c Q m).p (lb.map N.p)) (.returned (.slice A9 l9.length c9)) w7 := by
            rw [HJP.out, if_neg h3]
            refine ⟨l9, A9, c9, rfl, p1, ?_, hb06.trans (p3.mono hb06.size)⟩
            refine ⟨p2.1, p2.2.1, p2.2.2.1, p2.2.2.2.1.mono ?_, fun x hx => (p2.2.2.2.2 x hx).mono ?_⟩
            all_goals
              intro g hg
              have q1 := hb6.size
              have q2 := p3.size
              have q3 := hbz.size
              rcases hg with (hg | hg) | hg
              · exact .inl hg
              · exact .inr ⟨hg.1, by omega⟩
              · exact .inr ⟨by omega, hg.2⟩
          clear p1 p2 p3 hhalf
          go_wp2_with fail
          go_ret
          exact hres

end Go.Proofs.Ytnndohdiiglgmaa.trees
